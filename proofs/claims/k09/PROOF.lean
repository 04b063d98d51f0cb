import PyProof.Rows.All
import Wide.All
import OpenK.AllK
import Wide.FinOn
import Lean
import PyProof.EqAt
import PyProof.EqKinds
import PyProof.TupleCall
import PyProof.ListStr
import PyProof.TupleOfStr
import PyProof.ConsumeWalk
import PyProof.SliceStr2
import PyProof.CompUse
import PyProof.Rows.SetFrom
import PyProof.SetRoads
import PyProof.StrLawsIn
import PyProof.Rows.StrIndexOr
import PyProof.Rows.StrJoin2
import PyProof.Rows.SumAny
import PyProof.WalkInts
import PyProof.SeqI3
import PyProof.Draws
import PyProof.ZipIter
import PyProof.EnumMake
import Wide.Txt2
import PyProof.Rows.SortWalk
import PyProof.ListRange
import PyProof.Rows.Range3
import KE.KStateDown
import PyProof.ReprRoads
import PyProof.CallFns
import PyProof.WalksMore
import KE.KTryDeep
import PyProof.ExcBaseAll.ValueError
import KE.KTryMore
import KE.KIsNot
import PyProof.ExcAttrAll.ValueError
import PyProof.NsDelKeeps
import PySem.SetOps
import PyProof.SetScanFacts
import PyProof.Walks
import PyProof.CollectWalk
import PyProof.SumWalk
import PyProof.SeqWrite
import KE.KRevIter
import PyProof.CollectIter
import PyProof.WalksS
import PyProof.ListNew
import PySem.Challenge.RW_nearreach_k09_takings_walked
set_option bootstrap.genMatcherCode false
set_option genSizeOf false
noncomputable section
set_option Elab.async false
set_option linter.all false
set_option maxRecDepth 100000
def af:=@PySem.wpAny_bind
def ag:=@List.getElem?_eq_getElem
def ah:=@congrArg
def ai:=@PySem.Heap.get?_push_of_some
def am:=@List.getElem?_eq_some_iff
def ap:=@Eq.trans
def ar:=@PySem.wpAny_pure
def av:=@List.length_append
def ax:=@List.length_map
def ay:=@List.mem_cons_of_mem
def aA:=@Nat.le_refl
def aB:=@List.getElem?_append_right
def aC:=@List.mem_cons
def aD:=@List.mem_singleton
def aE:=@if_pos
def aF:=@List.length_range
def aG:=@PySem.Heap.lt_size
def aH:=@List.length_cons
def aI:=@List.mem_cons_self
def aJ:=@PySem.Heap.get?_push_size
def aK:=@List.length_singleton
def aL:=@List.size_toArray
def aM:=@Nat.lt_of_lt_of_le
def aN:=@List.getElem?_map
def aO:=@Array.length_toList
def aP:=@List.getElem?_append_left
def aQ:=@Option.map_eq_some_iff
def aR:=@List.mem_append_right
def aS:=@if_neg
def aT:=@List.map_cons
def aU:=@Int.eq_ofNat_of_zero_le
def aV:=@Nat.ne_of_lt
def aW:=@Nat.le_trans
def aX:=@Bool.false_ne_true
def aY:=@decide_eq_false
def aZ:=@List.mem_append
def b6:=@List.mem_map
def ba:=@List.getElem?_eq_none
def bb:=@List.flatten_cons
def bg:=@List.length_take
def bi:=@Bool.false_eq_true
def bq:=@Nat.zero_le
def bv:=@List.mem_of_getElem?
def bA:=@List.not_mem_nil
def bB:=@List.map_map
def bC:=@Nat.lt_irrefl
def bD:=@PySem.W.mg_none_of
def bE:=@List.mem_range
def bF:=@PySem.wpAny_mono
def bG:=@PySem.Heap.get?_update_self
def bH:=@List.length_nil
def bI:=@PySem.wpAny_setState_of
def bJ:=@List.drop_eq_nil_of_le
def bK:=@Option.some.inj
def bL:=@List.append_nil
def bM:=@Nat.mul_le_mul_right
def bN:=@List.length_drop
def bO:=@PyProof.Rows.callWith_type1
def bP:=@PySem.Heap.SameBut.update
def bQ:=@List.nodup_append
def bR:=@PySem.wpAny_holding
def bS:=@PySem.mem_of_lookup
def bT:=@List.drop_eq_getElem_cons
def bU:=@PySem.Heap.get?_update_other
def bV:=@List.take_of_length_le
def bW:=@PySem.Around.under_plainId
def bX:=@PySem.wpAny_call_entry
def bY:=@List.all_eq_true
def bZ:=@List.getElem_mem
def c4:=@PyProof.Rows.slot_tuple_getitem
def c6:=@PySem.PassesOwn.never
def c8:=@decide_eq_true
def c9:=@List.getD_eq_getElem?_getD
def ce:=@List.map_congr_left
def cf:=@Bool.and_eq_true
def cr:=@List.nil_append
def cv:=@Int.toNat_natCast
def cA:=@PySem.wpAny_newObj_type
def cB:=@PySem.Heap.size_push
def cC:=@Array.getElem?_eq_getElem
def cD:=@List.getElem?_set_self
def cE:=@List.filterMap_cons
def cF:=@PySem.W.kia_one
def cG:=@List.length_replicate
def cH:=@List.replicate_succ
def cI:=@List.map_append
def cJ:=@beq_self_eq_true
def cK:=@PySem.wpAny_callSpecial?_slot
def cM:=@List.append_assoc
def cN:=@PySem.W.mg_of
def cO:=@List.getElem?_of_mem
def cP:=@List.pairwise_iff_getElem
def cQ:=@PySem.codeAny_builtin
def cR:=@PySem.wpAny_field
def cT:=@List.getElem?_cons_zero
def cU:=@PySem.wpAny_updateSeq
def cV:=@List.length_eq_zero_iff
def cW:=@List.set_cons_zero
def cX:=@List.map_replicate
def cY:=@List.filter_cons_of_pos
def cZ:=@Nat.succ_mul
def da:=@beq_eq_false_iff_ne
def db:=@if_true
def de:=@PySem.wpAny_standAt
def dk:=@PySem.wpAny_Call_Name_kw
def dl:=@PySem.wpAny_of_eq
def dn:=@List.mem_append_left
def dv:=@List.getElem?_set_ne
def dA:=@Nat.pow_le_pow_right
def dB:=@List.getElem?_replicate
def dC:=@if_false
def dD:=@List.map_nil
def dE:=@PySem.wpAny_seqItems
def dF:=@Nat.succ_pos
def dG:=@Nat.le_of_lt_succ
def dH:=@List.foldl_cons
def dI:=@List.getElem?_range
def dJ:=@Array.toList_filterMap
def dL:=@PySem.F.slot_tuple_iterator_next
def dM:=@PySem.wpAny_isInstance
def dN:=@List.cons_append
def dO:=@Nat.le_of_lt
def dP:=@Nat.succ.inj
def dQ:=@List.set_cons_succ
def dR:=@PySem.plainId_quiet
def dS:=@List.dropLast_eq_take
def dU:=@PySem.F.slot_str_join
def dW:=@PySem.F.type_str_join
def dX:=@Nat.sub_self
def dY:=@List.getElem?_zip_eq_some
def dZ:=@Classical.byContradiction
def e9:=@or_false
def ee:=@Ne.symm
def eh:=@PySem.wpAny_truthy_bool
def ei:=@PySem.wpAny_passesOwn
def eA:=@List.nodup_cons
def eB:=@List.reverse_cons
def eC:=@not_true_eq_false
def eD:=@List.ext_getElem?
def eE:=@PySem.F.plain_extend_loop
def eF:=@List.getElem?_cons_succ
def eG:=@List.filter_cons_of_neg
def eH:=@Nat.lt_succ_self
def eI:=@List.filterMap_map
def eJ:=@Int.emod_lt_of_pos
def eK:=@List.length_set
def eM:=@Nat.min_eq_left
def eO:=@PySem.builtinLookup_eq_fast
def eP:=@PySem.F.called_set
def eQ:=@decide_false
def eR:=@PySem.Heap.SameBut.refl
def eU:=@PySem.wpAny_rule
def eV:=@Bool.not_true
def eW:=@Bool.and_self
def eX:=@PySem.wpAny_storeSet_of
def eY:=@PySem.fits_of_scanBound
def eZ:=@List.mem_of_mem_take
def fg:=@List.mem_iff_getElem
def fh:=@List.drop_zero
def fk:=@List.take_zero
def fq:=@List.nodup_nil
def fv:=@Array.size_map
def fz:=@PySem.wpAny_askSetting
def fA:=@List.take_length
def fB:=@PySem.sizeLine_eq
def fD:=@decide_true
def fE:=@Nat.add_le_add_left
def fF:=@Option.isSome_iff_exists
def fG:=@PySem.wpAny_comprehension_free
def fH:=@Nat.pow_succ
def fI:=@Nat.mod_lt
def fJ:=@List.mem_filter
def fK:=@List.getElem?_take
def fL:=@Nat.not_lt_zero
def fM:=@PySem.codeAny_of_tree
def fN:=@PyProof.Rows.F.plain_set_update_loop
def fO:=@PySem.wpAny_setField_rec
def fP:=@Bool.true_eq_false
def fQ:=@Int.emod_nonneg
def fR:=@List.mem_replicate
def fT:=@List.getElem_range
def fU:=@PySem.wpAny_pyIter_rangeiter
def fV:=@List.range_succ_eq_map
def fW:=@Nat.lt_of_succ_lt_succ
def fX:=@PySem.wpAny_pyIter_list
def fY:=@Nat.lt_succ_of_lt
def fZ:=@PySem.isSubtype_type
def gu:=@PySem.codeAny_mono
def gy:=@PySem.wpAny_typeOf
def gz:=@Nat.sub_zero
def gA:=@PySem.exec_Assign_Name_used
def gB:=@Array.mem_iff_getElem
def gC:=@PySem.F.slot_range_reversed
def gD:=@List.getElem?_reverse
def gE:=@Nat.min_eq_right
def gF:=@List.range'_succ
def gG:=@PySem.F.plain_sum_loop
def gH:=@List.mem_flatten
def gI:=@Array.getElem_toList
def gJ:=@List.all_cons
def gK:=@List.any_cons
def gL:=@PySem.F.args_tuple_iterator_next_1
def gM:=@PySem.call_meets
def gN:=@beq_iff_eq
def gO:=@PySem.wpAny_execs_nil
def gP:=@List.of_mem_zip
def gQ:=@PySem.F.entry_tuple_iterator_next
def gR:=@PySem.typeLookup_type
def gS:=@PySem.wpAny_specialOf
def gT:=@List.length_reverse
def gU:=@List.length_zip
def gV:=@List.take_succ_cons
def gW:=@Array.getElem?_eq_some_iff
def gX:=@Nat.ne_of_gt
def gY:=@PySem.wpAny_pyIter_tuple
def gZ:=@List.mem_filterMap
def hE:=@PySem.Calls.spliced_cons
def hJ:=@Nat.lt_or_gt_of_ne
def hU:=@Nat.zero_add
def hV:=@Option.isNone_iff_eq_none
def hW:=@PySem.wpAny_newTuple
def hX:=@Bool.not_false
def hZ:=@Nat.mul_le_mul
def i3:=@PySem.W.kitx_dict
def i4:=@PySem.Calls.spliced_nil
def i5:=@List.getElem?_take_of_lt
def i6:=@List.take_sublist
def i7:=@PySem.F.args_tuple_add_2
def i8:=@PySem.slot_list_getitem
def i9:=@Option.some.injEq
def ib:=@Array.getElem_mem
def ii:=@PySem.F.slot_list_append
def ij:=@PySem.F.type_list_append
def io:=@PySem.F.entry_tuple_add
def iq:=@PySem.wpAny_attempt
def iA:=@Bool.true_and
def iB:=@Nat.add_sub_cancel_left
def iC:=@PySem.noFill_tuple_add
def iD:=@Option.getD_none
def iE:=@Option.bind_some
def iF:=@List.lookup_cons
def iH:=@PySem.wpAny_pyIter_zip
def iI:=@List.map_flatten
def iJ:=@Nat.le_of_eq
def iK:=@List.range_succ
def iL:=@Bool.or_eq_true
def iM:=@Nat.mul_comm
def iN:=@List.take_left'
def iO:=@and_true
def iP:=@true_and
def iQ:=@Bool.and_false
def iR:=@List.forIn_nil
def iT:=@Nat.pow_pos
def iU:=@Nat.mod_mul
def iV:=@List.take_nil
def iW:=@List.sum_cons
def iX:=@and_self
open PySem PySem.Spec
namespace L2
open PyProof.Rows
abbrev Key:=Sum Int Str
def atn:Key->Value->Bool
 |.inl k,v=>Value.isInt k v
 |.inr x,v=>Value.isStrOf x v
def b12(w:World):Key->Int
 |.inl k=>hashInt k
 |.inr x=>hashStr w x
theorem qx:∀{k:Key} {v:Value},atn k v=true->(∃i t,k=Sum.inl i/\v=Value.int i t)\/(∃x t,k=Sum.inr x/\v=Value.str x t)
 |.inl i,v,h=>by
  obtain ⟨t,e⟩:=Value.isInt_shape (k:=i) (v:=v) h;exact .inl ⟨i,t,rfl,e⟩
 |.inr x,v,h=>by
  obtain ⟨t,e⟩:=Value.isStrOf_shape (x:=x) (v:=v) h;exact .inr ⟨x,t,rfl,e⟩
theorem ato(a b:Int):decide ((Sum.inl a:Key)=Sum.inl b)=(a == b):=by
 by_cases e:a=b
 .subst e;simp
 .have h:¬ (Sum.inl a:Key)=Sum.inl b:=λq=>e (Sum.inl.inj q);rw [aY h];exact (da.mpr e).symm
theorem atp(a b:Str):decide ((Sum.inr a:Key)=Sum.inr b)=decide (a=b):=by
 by_cases e:a=b
 .subst e;simp
 .have h:¬ (Sum.inr a:Key)=Sum.inr b:=λq=>e (Sum.inr.inj q);rw [aY h,aY e]
theorem atq(a:Int)(b:Str):decide ((Sum.inl a:Key)=Sum.inr b)=false:=aY (λq=>nomatch q)
theorem atr(a:Str)(b:Int):decide ((Sum.inr a:Key)=Sum.inl b)=false:=aY (λq=>nomatch q)
noncomputable def a6k(prog:Program)(w:World):PySem.KeyKind prog w Key where
 is:=atn
 hash:=b12 w
 inj:=λv a b ha hb=>by
  rcases qx ha with ⟨i,t,rfl,rfl⟩|⟨x,t,rfl,rfl⟩
  .rcases qx hb with ⟨j,u,rfl,e⟩|⟨y,u,rfl,e⟩
   .injection e with e1 _;rw [e1]
   .exact nomatch e
  .rcases qx hb with ⟨j,u,rfl,e⟩|⟨y,u,rfl,e⟩
   .exact nomatch e
   .injection e with e1 _;rw [e1]
 byValue:=λk v h=>by
  rcases qx h with ⟨i,t,rfl,rfl⟩|⟨x,t,rfl,rfl⟩<;>rfl
 pyHash:=λhv h=>by
  rcases qx hv with ⟨i,t,rfl,rfl⟩|⟨x,t,rfl,rfl⟩
  .exact wpAny_pyHash_int h
  .exact wpAny_pyHash_str h
 eqBool:=λhu hv h=>by
  rcases qx hu with ⟨i,t,rfl,rfl⟩|⟨x,t,rfl,rfl⟩
  .rcases qx hv with ⟨j,u,rfl,rfl⟩|⟨y,u,rfl,rfl⟩
   .rw [ato] at h;exact wpAny_eqBool_int h
   .rw [atq] at h;exact SeqAt.EqAt.int_str i t y u _ _ _ _ h
  .rcases qx hv with ⟨j,u,rfl,rfl⟩|⟨y,u,rfl,rfl⟩
   .rw [atr] at h;exact SeqAt.EqAt.str_int x t j u _ _ _ _ h
   .rw [atp] at h;exact wpAny_eqBool_str h
 «strs»:=λk x t v h=>by
  rcases qx h with ⟨i,u,rfl,e⟩|⟨y,u,rfl,e⟩
  .exact nomatch e
  .injection e with e1 _
   subst e1
   cases v<;>rfl
inductive V where
 |non|bl (b:Bool)|int (i:Int)|str (x:Str)|byt (b:Array UInt8)|flt (b:UInt64)|ref (a:Addr)|ty (n:String)
 deriving DecidableEq
def RelV:V->Value->Prop
 |.non,u=>u=Value.none
 |.bl b,u=>u=Value.bool b
 |.int i,u=>∃t,u=Value.int i t
 |.str x,u=>∃t,u=Value.str x t
 |.byt b,u=>∃t,u=Value.bytes b t
 |.flt b,u=>∃t,u=Value.float b t
 |.ref a,u=>u=Value.ref a
 |.ty n,u=>u=Value.type n
abbrev Vals:List V->List Value->Prop:=Paired RelV
theorem Vals.length(r:Vals xs us):xs.length=us.length:=Paired.length r
theorem Vals.get:∀{xs:List V} {us:List Value} {i:Nat} {x:V},Vals xs us->xs[i]? = some x->∃u,us[i]? = some u/\RelV x u
 |_,_,_,_,.nil,e=>by simp at e
 |_,_,0,_,.cons r _,e=>by simp at e;subst e;exact ⟨_,rfl,r⟩
 |_,_,i+1,x,.cons _ t,e=>by
  obtain ⟨u,h1,h2⟩:=Vals.get (i:=i) (x:=x) t (by simpa using e)
  exact ⟨u,by simpa using h1,h2⟩
theorem Vals.set(r:RelV x u):∀{xs:List V} {us:List Value} (i:Nat),Vals xs us->Vals (xs.set i x) (us.set i u)
 |_,_,_,.nil=>.nil
 |_,_,0,.cons _ t=>.cons r t
 |_,_,i+1,.cons q t=>.cons q (Vals.set r i t)
theorem Vals.append:∀{xs ys:List V} {us ws:List Value},Vals xs us->Vals ys ws->Vals (xs++ys) (us++ws)
 |_,_,_,_,.nil,s=>s
 |_,_,_,_,.cons r t,s=>.cons r (Vals.append t s)
theorem Vals.take:∀{xs:List V} {us:List Value} (n:Nat),Vals xs us->Vals (xs.take n) (us.take n)
 |_,_,0,_=>.nil
 |_,_,_+1,.nil=>.nil
 |_,_,n+1,.cons r t=>.cons r (Vals.take n t)
theorem Vals.drop:∀{xs:List V} {us:List Value} (n:Nat),Vals xs us->Vals (xs.drop n) (us.drop n)
 |_,_,0,r=>r
 |_,_,_+1,.nil=>.nil
 |_,_,n+1,.cons _ t=>Vals.drop n t
def RelO:Option V->Option Value->Prop
 |some v,some u=>RelV v u
 |none,none=>True
 |_,_=>False
def KV{κ:Type}:List (κ×V)->List (κ×Value)->Prop:=Paired λ(p:κ×V) (q:κ×Value)=>p.1=q.1/\RelV p.2 q.2
def kV:Key->V
 |.inl i=>.int i
 |.inr x=>.str x
inductive HO where
 |lst (xs:List V)
 |tup (xs:List V)
 |dK (kvs:List (Key×V))|dT (kvs:List (List Key×V))
 |set (S:Int->Bool) (n:Nat)
 |ins (C dx:Addr) (fs:List (Str×V))
 |own (x:Addr)
 |xd (fs:List (Str×V))
 |met (f x:Addr)
 |rng (lo hi:Int)
 |frz (o:Obj) (u:HO)
 |tbl (ps:Array Value)
 |ext (φ:Heap->Prop)
abbrev Hp:=Addr->Option HO
def upd(H:Hp)(a:Addr)(o:HO):Hp:=λb=>if b=a then some o else H b
theorem km:upd H a o a=some o:=by unfold upd;rw [aE rfl]
theorem jc(h:b≠a):upd H a o b=H b:=by unfold upd;rw [aS h]
theorem gm{H:Hp}{a b:Addr}{o:HO}(h:H a=some o)(h':H b=none):a≠b:=by
 intro e;subst e;rw [h] at h';cases h'
section
variable(P:Program)(w:World)
def ObjOk(H:Hp)(h:Heap)(a:Addr):HO->Prop
 |.lst xs=>xs.length<=sizeLine/\∃(its:List Value) (n:Nat),Vals xs its/\h.get? a=some {cls:=.type "list",data:=.seq its.toArray n}
 |.tup xs=>xs.length<=sizeLine/\∃its:List Value,Vals xs its/\IsTup h a its.toArray
 |.dK kvs=>kvs.length<=sizeLine/\(a == sysModules)=false/\∃vs,KV kvs vs/\h.DictOf (a6k P w) a vs
 | .dT kvs=>kvs.length<=sizeLine/\(a == sysModules)=false/\∃xs:List (List Key×Addr×Value),
   Paired (λ(p:List Key×V) (q:List Key×Addr×Value)=>p.1=q.1/\H q.2.1=some (.tup (p.1.map kV))/\RelV p.2 q.2.2) kvs xs /\
   ∃o es ep,h.get? a=some o/\o.ExactDict/\o.data=.dict es ep/\es.toList=xs.map (entryOfKey (tupleKind (a6k P w)))/\(xs.map (·.1)).Nodup
 |.set S n=>h.SetOf (intKind P w) a S n
 | .ins C dx fs=>H dx=some (.own a)/\fs.length<=1000/\dx≠a/\h.get? a=some (PySem.W.instObj C dx) /\
   ∃mA,h.Ns1 dx mA/\(∀f,RelO (fs.lookup f) (mA f))/\PySem.Within mA (fs.map (·.1))
 |.own _=>∃o,h.get? a=some o
 |.xd fs=>∃mA,h.Ns1 a mA/\∀f,RelO (fs.lookup f) (mA f)
 |.rng lo hi=>∃t u v,h.get? a=some {cls:=.type "range",data:=.fields #[.int lo t,.int hi u,.int 1 v]}
 |.frz o u=>h.get? a=some o/\ObjOk H h a u
 |.tbl ps=>h.get? a=some {cls:=.none,data:=.fields ps}
 |.met f x=>h.get? a=some (PySem.W.methodObj (.ref f) (.ref x))
 |.ext φ=>φ h/\(∃o,h.get? a=some o)/\∀h1 h2:Heap,φ h1->(∀o,h1.get? a=some o->h2.get? a=some o)->φ h2
def HOk(H:Hp)(h:Heap):Prop:=∀a o,H a=some o->ObjOk P w H h a o
end
section
variable{P:Program}{w:World}{H H':Hp}{h h':Heap}{a:Addr}{o:HO}
theorem ObjOk.lt(x:ObjOk P w H h a o):a<h.objs.size:=by
 cases o with
 |lst xs=>obtain ⟨_,_,_,_,e⟩:=x;exact aG e
 |tup xs=>obtain ⟨_,_,_,p⟩:=x;exact p.lt
 |dK kvs=>obtain ⟨_,_,_,_,o,_,_,e,_⟩:=x;exact aG e
 |dT kvs=>obtain ⟨_,_,_,_,o,_,_,e,_⟩:=x;exact aG e
 |set S n=>obtain ⟨o,_,_,_,e,_⟩:=x;exact aG e
 |ins C dx fs=>obtain ⟨_,_,_,e,_⟩:=x;exact aG e
 |own y=>obtain ⟨_,e⟩:=x;exact aG e
 |xd fs=>obtain ⟨_,⟨_,_,_,e,_⟩,_⟩:=x;exact aG e
 |rng lo hi=>obtain ⟨_,_,_,e⟩:=x;exact aG e
 |frz ob u=>obtain ⟨e,_⟩:=x;exact aG e
 |tbl ps=>exact aG (show h.get? a=some _ from x)
 |met f y=>exact aG (show h.get? a=some _ from x)
 |ext φ=>obtain ⟨_,⟨_,e⟩,_⟩:=x;exact aG e
theorem Paired.mapP{α β:Type}{F G:α->β->Prop}:∀{l₁:List α} {l₂:List β},Paired F l₁ l₂->(∀a b,F a b->G a b)->Paired G l₁ l₂
 |_,_,.nil,_=>.nil
 |_,_,.cons r t,f=>.cons (f _ _ r) (Paired.mapP t f)
theorem ObjOk.stay(x:ObjOk P w H h a o)(k:∀b u,(b=a\/H b=some (.own a))->h.get? b=some u->h'.get? b=some u)
  (ho:∀b,H b=some (.own a)->H' b=some (.own a)) (ht:∀b xs,H b=some (.tup xs)->H' b=some (.tup xs)):ObjOk P w H' h' a o:=by
 induction o with
 |lst xs=>obtain ⟨z,its,n,r,e⟩:=x;exact ⟨z,its,n,r,k _ _ (.inl rfl) e⟩
 |tup xs=>obtain ⟨z,its,r,ob,e,c⟩:=x;exact ⟨z,its,r,ob,k _ _ (.inl rfl) e,c⟩
 |dK kvs=>obtain ⟨z,y,vs,r,ob,es,ep,e,c⟩:=x;exact ⟨z,y,vs,r,ob,es,ep,k _ _ (.inl rfl) e,c⟩
 |dT kvs =>
  obtain ⟨z,y,xs,r,ob,es,ep,e,c⟩:=x;exact ⟨z,y,xs,Paired.mapP r λp q z=>⟨z.1,ht _ _ z.2.1,z.2.2⟩,ob,es,ep,k _ _ (.inl rfl) e,c⟩
 |set S n=>obtain ⟨ob,es,ep,t,e,c⟩:=x;exact ⟨ob,es,ep,t,k _ _ (.inl rfl) e,c⟩
 |ins C dx fs =>
  obtain ⟨d,z,ne,e,mA,⟨od,es,ep,e2,c⟩,r⟩:=x;exact ⟨ho _ d,z,ne,k _ _ (.inl rfl) e,mA,⟨od,es,ep,k _ _ (.inr d) e2,c⟩,r⟩
 |own y=>obtain ⟨ob,e⟩:=x;exact ⟨ob,k _ _ (.inl rfl) e⟩
 |xd fs=>obtain ⟨mA,⟨od,es,ep,e,c⟩,r⟩:=x;exact ⟨mA,⟨od,es,ep,k _ _ (.inl rfl) e,c⟩,r⟩
 |rng lo hi=>obtain ⟨t,u,v,e⟩:=x;exact ⟨t,u,v,k _ _ (.inl rfl) e⟩
 |frz ob u ih=>obtain ⟨e,q⟩:=x;exact ⟨k _ _ (.inl rfl) e,ih q⟩
 |tbl ps =>
  have e:h.get? a=some {cls:=.none,data:=.fields ps}:=x;show h'.get? a=some {cls:=.none,data:=.fields ps};exact k a _ (.inl rfl) e
 |met f y =>
  have e:h.get? a=some (PySem.W.methodObj (.ref f) (.ref y)):=x;show h'.get? a=some (PySem.W.methodObj (.ref f) (.ref y));exact k a _ (.inl rfl) e
 |ext φ=>obtain ⟨p,⟨o,e⟩,st⟩:=x;exact ⟨st _ _ p λo q=>k _ _ (.inl rfl) q,⟨o,k _ _ (.inl rfl) e⟩,st⟩
theorem HOk.lt(x:HOk P w H h)(e:H a=some o):a<h.objs.size:=(x a o e).lt
theorem HOk.fresh(x:HOk P w H h)(e:h.objs.size<=a):H a=none:=by
 cases q:H a with
 |none=>rfl
 |some u=>exact absurd (aM (x.lt q) e) (bC _)
theorem HOk.kept(x:HOk P w H h)(k:∀b u,h.get? b=some u->h'.get? b=some u):HOk P w H h':=λa o e =>
 (x a o e).stay (λb u _ q=>k b u q) (λ_ q=>q) λ_ _ q=>q
theorem HOk.laid(x:HOk P w H h)(k:∀b u,h.get? b=some u->h'.get? b=some u)(hp:h.objs.size<=a)(new:ObjOk P w (upd H a o) h' a o):HOk P w (upd H a o) h':=λb u e=>by
 have hn:=x.fresh hp
 by_cases hb:b=a
 .subst hb;rw [km] at e;cases e;exact new
 .rw [jc hb] at e;exact (x b u e).stay (λc v _ q=>k c v q) (λc q=>by rw [jc (gm q hn)];exact q) λc xs q=>by rw [jc (gm q hn)];exact q
end
def Rd(H:Hp)(a:Addr)(u:HO):Prop:=H a=some u\/∃o,H a=some (.frz o u)
theorem Rd.of(h:H a=some u):Rd H a u:=.inl h
theorem Rd.ok(r:Rd H a u)(x:HOk P w H h):ObjOk P w H h a u:=by
 rcases r with r|⟨o,r⟩
 .exact x a u r
 .obtain ⟨_,q⟩:=x a _ r;exact q
def Mut:Option HO->Prop
 |some (.lst _)=>True
 |some (.dK _)=>True
 |some (.dT _)=>True
 |some (.set _ _)=>True
 |some (.ins _ _ _)=>True
 |some (.ext _)=>True
 |_=>False
section
variable{P:Program}{w:World}{H:Hp}{h h':Heap}{x e:Addr}{o':HO}
theorem HOk.write(ok:HOk P w H h)(mu:Mut (H x))(he:e=x\/H e=some (.own x))(k:∀b u,b≠e->h.get? b=some u->h'.get? b=some u)(heo:∃u,h'.get? e=some u)
  (new:ObjOk P w (upd H x o') h' x o'):HOk P w (upd H x o') h':=λb u q=>by
 have nown:∀c y,H c=some (.own y)->c≠x:=λc y r z=>by subst z;rw [r] at mu;exact mu
 have ntup:∀c xs,H c=some (.tup xs)->c≠x:=λc xs r z=>by subst z;rw [r] at mu;exact mu
 by_cases hb:b=x
 .subst hb;rw [km] at q;cases q;exact new
 .rw [jc hb] at q
  by_cases hbe:b=e
  .have q':H b=some (.own x):=by
    rcases he with z|z
    .exact absurd (hbe.trans z) hb
    .rw [hbe];exact z
   rw [q] at q';cases q'
   obtain ⟨v,hv⟩:=heo;exact ⟨v,by rw [hbe];exact hv⟩
  .refine (ok b u q).stay (λc v hc r=>k c v ?_ r) (λc r=>by rw [jc (nown c b r)];exact r) λc xs r=>by rw [jc (ntup c xs r)];exact r
   rcases hc with rfl|hc
   .exact hbe
   .rintro rfl
    rcases he with z|z
    .exact nown c b hc z
    .rw [hc] at z;cases z;exact hb rfl
end
structure Un (fs ex:List Addr) (H H':Hp) (h h':Heap):Prop where
 keep:∀b o,h.get? b=some o->H b=none->b∉fs->b∉ex->h'.get? b=some o
 slot:∀b o,h.get? b=some o->H b=none->b∈fs->b∉ex->∃sl,h'.get? b=some {o with slots:=sl}
 free:∀b o,h.get? b=some o->H b=none->b∉ex->H' b=none
 there:∀b o,h.get? b=some o->b∉ex->∃o',h'.get? b=some o'
 tups:∀b xs,H b=some (.tup xs)->H' b=some (.tup xs)
 frzs:∀b o u,H b=some (.frz o u)->H' b=some (.frz o u)
 tbls:∀b ps,H b=some (.tbl ps)->∃more,H' b=some (.tbl (ps++more))
section
variable{fs fs' ex ex':List Addr}{H H1 H2:Hp}{h h1 h2 h':Heap}{a x e:Addr}{o:HO}
theorem Un.any(u:Un fs ex H H1 h h1)(q:h.get? b=some ob)(n:H b=none)(hx:b∉ex):∃sl,h1.get? b=some {ob with slots:=sl}:=by
 by_cases hb:b∈fs
 .exact u.slot b ob q n hb hx
 .exact ⟨ob.slots,u.keep b ob q n hb hx⟩
theorem Un.kept(k:∀b u,h.get? b=some u->h'.get? b=some u):Un fs ex H H h h' :=
 ⟨λb ob q _ _ _=>k b ob q,λb ob q _ _ _=>⟨ob.slots,k b ob q⟩,λ_ _ _ n _=>n,λb ob q _=>⟨ob,k b ob q⟩,λ_ _ q=>q,λ_ _ _ q=>q,λ_ ps q=>⟨#[],by rw [q];simp⟩⟩
theorem Un.refl:Un fs ex H H h h:=Un.kept λ_ _ q=>q
theorem Un.laid(k:∀b u,h.get? b=some u->h'.get? b=some u)(hp:h.objs.size<=a)(hn:H a=none):Un fs ex H (upd H a o) h h' where
 keep:=λb u q _ _ _=>k b u q
 slot:=λb u q _ _ _=>⟨u.slots,k b u q⟩
 free:=λb u q n _=>by rw [jc (aV (aM (aG q) hp))];exact n
 there:=λb u q _=>⟨u,k b u q⟩
 tups:=λb xs q=>by rw [jc (gm q hn)];exact q
 frzs:=λb u xs q=>by rw [jc (gm q hn)];exact q
 tbls:=λb ps q=>⟨#[],by rw [jc (gm q hn),q];simp⟩
theorem Un.write(mu:Mut (H x))(he:e=x\/H e=some (.own x))(k:∀b u,b≠e->h.get? b=some u->h'.get? b=some u)(heo:∃u,h'.get? e=some u):Un fs ex H (upd H x o) h h':=by
 have hx:∀b,H b=none->b≠x:=λb n z=>by subst z;rw [n] at mu;exact mu
 have hb:∀b,H b=none->b≠e:=λb n z=>by
  subst z
  rcases he with r|r
  .exact hx b n r
  .rw [n] at r;cases r
 have hm:∀b u,H b=some u->¬ Mut (some u)->b≠x:=λb u q nm z=>by subst z;rw [q] at mu;exact nm mu
 refine ⟨λb u q n _ _=>k b u (hb b n) q,λb u q n _ _=>⟨u.slots,k b u (hb b n) q⟩,λb u q n _=>by rw [jc (hx b n)];exact n,λb u q _=>?_,
  λb xs q=>by rw [jc (hm b _ q λz=>z)];exact q,λb u xs q=>by rw [jc (hm b _ q λz=>z)];exact q,λb ps q=>⟨#[],by rw [jc (hm b _ q λz=>z),q];simp⟩⟩
 by_cases hbe:b=e
 .subst hbe;exact heo
 .exact ⟨u,k b u hbe q⟩
end
def trk(h:Heap)(H:Hp):List Addr:=(List.range h.objs.size).filter λa=>(H a).isSome
def alz(h:Heap)(H:Hp):Heap:=PySem.W.hideAll h (trk h H)
theorem ahp(h:Heap)(H:Hp):(alz h H).objs.size=h.objs.size:=PySem.W.hideAll_size _ _
theorem am0{h:Heap}(e:h.get? b=some o)(n:H b=none):(alz h H).get? b=some o :=
 PySem.W.hideAll_get _ e λhm=>by
  have q:(H b).isSome=true:=(fJ.mp hm).2;rw [n] at q;simp at q
theorem apz(e:(alz h H).get? b=some o):h.get? b=some o/\H b=none:=by
 have e':h.get? b=some o:=PySem.W.of_hideAll (trk h H) e;refine ⟨e',?_⟩
 cases q:H b with
 |none=>rfl
 |some x =>
  have hm:b∈trk h H:=fJ.mpr ⟨bE.mpr (aG e'),by simp [q]⟩
  have z:(alz h H).get? b=none:=PySem.W.hideAll_none (trk h H) hm;rw [z] at e;cases e
noncomputable def aq0(g h:Heap)(L:Addr):List (Addr×Obj):=(List.range h.objs.size).filterMap λa=>if a=L\/(g.get? a).isSome=true then none else (h.get? a).map λo=>(a,o)
def rest(g h:Heap)(L d:Addr):List (Addr×Obj):=(aq0 g h L).filter λp=>decide (p.1≠d)
structure Mod (K:PySem.W.Frag) (mg:Str->Option Value) (base:Heap):Prop where
 kin:K.In base
 glob:base.Ns mainGlobals mg
 blt:∃mb,base.Ns builtinsNs mb/\∀x:Str,x ≠ "__name__"->mb x=bootBuiltins x
 nolimit:base.NoLimit
structure Cx where
 prog:Program
 w:World
 K:PySem.W.Frag
 mg:Str->Option Value
 base:Heap
 A:Around
 N:List Str
 s₀:Shared
 H₀:Hp
 env:Env
 outer:List Env
 stack:List Env
 ex:List Addr
 fn:Str->Bool
 calm:Bool
 pn:List (Addr×Obj)
 xe:Value->Shared->Prop
def frs(l:List Env):List Addr:=l.filterMap (·.frame)
abbrev Cx.fs(X:Cx):List Addr:=frs X.outer
def Vis(sc:Scope)(x:Str):Prop:=sc.names.lookup x=some .local\/sc.names.lookup x=some .cell\/sc.names.lookup x=some .free
def Loc(sc:Scope)(x:Str):Prop:=sc.names.lookup x=some .local\/sc.names.lookup x=some .cell
def Look(env:Env)(h:Heap)(m:Str->Option Value)(x:Str)(u:Value):Prop :=
 (env.kindOf x=some .local/\m x=some u)\/((env.kindOf x=some .cell\/env.kindOf x=some .free)/\∃c,env.cells.lookup x=some c/\h.IsCell c (some u))
structure Cx.Ok (X:Cx):Prop where
 mod:Mod X.K X.mg X.base
 kind:X.env.scope.kind=.function
 glob:X.env.globals=mainGlobals
 blt:X.env.builtins=builtinsNs
 above:X.s₀.heap.objs.size<=X.env.locals
 inj:∀x y c,X.env.cells.lookup x=some c->X.env.cells.lookup y=some c->x=y
 has:∀x,(X.env.kindOf x=some .cell\/X.env.kindOf x=some .free)->∃c,X.env.cells.lookup x=some c
 cab:∀x c,X.fn x=true->X.env.cells.lookup x=some c->X.s₀.heap.objs.size<=c
 hd:X.calm=true->X.A.handled=none
 frames:X.A.frames=some X.stack
 stk:X.stack=X.outer\/(X.stack=X.env::X.outer/\X.env.frame=some X.env.locals)
 exf:∀b∈X.ex,b≠X.env.locals/\∀x c,X.env.cells.lookup x=some c->c≠b
 bs:∀b o,X.base.get? b=some o->X.s₀.heap.get? b=some o/\X.H₀ b=none
 bsz:X.base.objs.size<=X.s₀.heap.objs.size
 noex:∀b o,X.base.get? b=some o->b∉X.ex
 exfs:∀b∈X.ex,b∉X.fs
 funs:X.s₀.heap.FunFrames X.base X.outer
 frf:∀b∈X.fs,X.H₀ b=none
structure Inv (X:Cx) (pins:List (Addr×Obj)) (Z:List (Option V)) (H:Hp) (s:Shared):Prop where
 ok:X.Ok
 os:s.os=X.s₀.os
 bare:AllBare s.gens
 base:Un X.fs X.ex X.H₀ H X.s₀.heap s.heap
 loc:∃m,s.heap.Ns X.env.locals m/\∀(i:Nat) (x:Str) (v:V),X.N[i]? = some x->Z[i]? = some (some v)->Vis X.env.scope x->∃u,RelV v u/\Look X.env s.heap m x u
 cell:∀x c,X.env.cells.lookup x=some c->∃v,s.heap.IsCell c v
 free:H X.env.locals=none
 freeC:∀x c,X.env.cells.lookup x=some c->H c=none
 pin:∀p∈X.pn++pins,s.heap.get? p.1=some p.2/\H p.1=none/\p.1≠X.env.locals/\p.1∉X.fs/\∀v,p.2.data≠.cell v
 hok:HOk X.prog X.w H s.heap
 len:Z.length=X.N.length
section
variable{X:Cx}{pins:List (Addr×Obj)}{Z:List (Option V)}{H H':Hp}{s:Shared}{h':Heap}
theorem Cx.Ok.nofr(ok:X.Ok)(e:X.base.get? b=some o):b∉X.fs:=λhb=>by
 have:=(ok.funs.mem hb).1
 rw [e] at this;cases this
theorem Inv.bs(I:Inv X pins Z H s):∀b o,X.base.get? b=some o->s.heap.get? b=some o/\H b=none:=λb o e =>
 ⟨I.base.keep b o (I.ok.bs b o e).1 (I.ok.bs b o e).2 (I.ok.nofr e) (I.ok.noex b o e),I.base.free b o (I.ok.bs b o e).1 (I.ok.bs b o e).2 (I.ok.noex b o e)⟩
theorem Inv.bk(I:Inv X pins Z H s):∀b o,X.base.get? b=some o->s.heap.get? b=some o:=λb o e=>(I.bs b o e).1
theorem Inv.mod(I:Inv X pins Z H s):Mod X.K X.mg X.base:=I.ok.mod
theorem Inv.kIn(I:Inv X pins Z H s):X.K.In s.heap:=I.ok.mod.kin.keeps I.bk
theorem Inv.fr(I:Inv X pins Z H s):∃m,Fr X.base X.env.locals s.heap m :=
 let ⟨m,hn,_⟩:=I.loc
 ⟨m,hn,I.bk,aW I.ok.bsz I.ok.above⟩
theorem Inv.lt(I:Inv X pins Z H s):X.env.locals<s.heap.objs.size:=let ⟨_,hn,_⟩:=I.loc;hn.lt
theorem Inv.sz(I:Inv X pins Z H s):X.s₀.heap.objs.size<=s.heap.objs.size:=aW I.ok.above (dO I.lt)
theorem Inv.nofs(I:Inv X pins Z H s)(h:s.heap.objs.size<=a):a∉X.fs:=λhb=>by
 obtain ⟨_,o,ho,_⟩:=I.ok.funs.mem hb;exact absurd (aM (aG ho) (aW I.sz h)) (bC _)
theorem Inv.cne(I:Inv X pins Z H s):∀x c,X.env.cells.lookup x=some c->c≠X.env.locals:=λx c e z=>by
 obtain ⟨v,o,ho,hd⟩:=I.cell x c e;obtain ⟨m,⟨o',es,ep,ho',hd',_⟩,_⟩:=I.loc;rw [z,ho'] at ho;cases ho;rw [hd'] at hd;cases hd
theorem Inv.funs(I:Inv X pins Z H s):s.heap.FunFrames X.base X.outer:=by
 have all:∀(l:List Env),(∀b∈frs l,b∈X.fs)->X.s₀.heap.FunFrames X.base l->s.heap.FunFrames X.base l:=by
  intro l
  induction l with
  |nil=>intro _ _;trivial
  |cons env r ih =>
   intro hs hl
   obtain ⟨hk,⟨L,o,hf,hn,ho,hd⟩,hr⟩:=hl;have hL:L∈X.fs:=hs L (by unfold frs;rw [cE,hf];exact aI)
   obtain ⟨sl,e⟩:=I.base.slot L o ho (I.ok.frf L hL) hL λz=>I.ok.exfs L z hL;exact ⟨hk,⟨L,_,hf,hn,e,hd⟩,ih (λb hb=>hs b (by unfold frs;rw [cE,hf];exact ay _ hb)) hr⟩
 exact all X.outer (λ_ hb=>hb) I.ok.funs
theorem Inv.stack(I:Inv X pins Z H s):s.heap.FunFrames X.base X.stack:=by
 rcases I.ok.stk with e|⟨e,hf⟩
 .rw [e];exact I.funs
 .rw [e];obtain ⟨m,hn,_⟩:=I.loc;refine .cons (by rw [I.ok.kind];decide) hf hn ?_ I.funs
  exact Heap.get?_none_of_le (aW I.ok.bsz I.ok.above)
theorem Inv.stkSub(I:Inv X pins Z H s):∀b∈frs X.stack,b∈X.env.locals::X.fs:=λb hb=>by
 rcases I.ok.stk with e|⟨e,hf⟩
 .rw [e] at hb;exact ay _ hb
 .rw [e] at hb;unfold frs at hb;rw [cE,hf] at hb;exact hb
theorem Inv.stkFree(I:Inv X pins Z H s):∀b∈frs X.stack,H b=none:=λb hb=>by
 rcases aC.mp (I.stkSub b hb) with e|hb
 .rw [e];exact I.free
 .obtain ⟨_,o,ho,_⟩:=I.ok.funs.mem hb;exact I.base.free b o ho (I.ok.frf b hb) λz=>I.ok.exfs b z hb
theorem Inv.step{g':Array GenState}{t':Nat}{d':Drawn}{ch:List Addr}(I:Inv X pins Z H s)
  (hch:∀b∈ch,(b∈X.ex\/X.s₀.heap.objs.size<=b)/\b≠X.env.locals/\(∀x c,X.env.cells.lookup x=some c->c≠b)/\∀p∈X.pn++pins,p.1≠b)
  (keep:∀b o,b≠X.env.locals->b∉X.fs->b∉ch->s.heap.get? b=some o->H b=none->h'.get? b=some o)
  (slot:∀b o,b≠X.env.locals->b∈X.fs->b∉ch->s.heap.get? b=some o->H b=none->∃sl,h'.get? b=some {o with slots:=sl}) (free:∀b o,b∉ch->s.heap.get? b=some o->H b=none->H' b=none)
  (there:∀b o,b∉ch->s.heap.get? b=some o->∃o',h'.get? b=some o')
  (tups:∀b xs,H b=some (.tup xs)->H' b=some (.tup xs)) (frzs:∀b o u,H b=some (.frz o u)->H' b=some (.frz o u)) (tbls:∀b ps,H b=some (.tbl ps)->∃more,H' b=some (.tbl (ps++more)))
  (ns:∀m,s.heap.Ns X.env.locals m->h'.Ns X.env.locals m) (hok:HOk X.prog X.w H' h') (hg:AllBare g') :
  Inv X pins Z H' {s with heap:=h',gens:=g',drawn:=d',toks:=t' }:=by
 have neL:∀b o,X.s₀.heap.get? b=some o->b≠X.env.locals:=λb o e=>aV (aM (aG e) I.ok.above);have neC:∀b o,X.s₀.heap.get? b=some o->b∉X.ex->b∉ch:=λb o e hx hb=>by
  rcases (hch b hb).1 with z|z
  .exact hx z
  .exact absurd (aM (aG e) z) (bC _)
 have cellK:∀x c,X.env.cells.lookup x=some c->∀v,s.heap.IsCell c v->h'.IsCell c v:=λx c e v ⟨o,ho,hd⟩=>by
  have nch:c∉ch:=λz=>(hch c z).2.2.1 x c e rfl
  by_cases hc:c∈X.fs
  .obtain ⟨sl,q⟩:=slot c o (I.cne x c e) hc nch ho (I.freeC x c e);exact ⟨_,q,hd⟩
  .exact ⟨o,keep c o (I.cne x c e) hc nch ho (I.freeC x c e),hd⟩
 refine ⟨I.ok,I.os,hg,⟨λb o e n hb hx=>?_,λb o e n hb hx=>?_,λb o e n hx=>?_,λb o e hx=>?_,λb xs e=>tups b xs (I.base.tups b xs e),λb o xs e=>frzs b o xs (I.base.frzs b o xs e),λb ps e=>?_⟩,?_,λx c e=>?_,?_,λx c e=>?_,λp hp=>?_,hok,I.len⟩
 .exact keep b o (neL b o e) hb (neC b o e hx) (I.base.keep b o e n hb hx) (I.base.free b o e n hx)
 .obtain ⟨sl,e1⟩:=I.base.slot b o e n hb hx;obtain ⟨sl',e2⟩:=slot b _ (neL b o e) hb (neC b o e hx) e1 (I.base.free b o e n hx);exact ⟨sl',e2⟩
 .obtain ⟨o',e1⟩:=I.base.there b o e hx;exact free b o' (neC b o e hx) e1 (I.base.free b o e n hx)
 .obtain ⟨o',e1⟩:=I.base.there b o e hx;exact there b o' (neC b o e hx) e1
 .obtain ⟨m1,e1⟩:=I.base.tbls b ps e;obtain ⟨m2,e2⟩:=tbls b _ e1;exact ⟨m1++m2,by rw [e2,Array.append_assoc]⟩
 .obtain ⟨m,hn,hl⟩:=I.loc;refine ⟨m,ns m hn,λi x v e1 e2 e3=>?_⟩;obtain ⟨u,r,l⟩:=hl i x v e1 e2 e3;refine ⟨u,r,?_⟩
  rcases l with l|⟨k,c,e,z⟩
  .exact .inl l
  .exact .inr ⟨k,c,e,cellK x c e _ z⟩
 .obtain ⟨v,z⟩:=I.cell x c e;exact ⟨v,cellK x c e v z⟩
 .obtain ⟨m,⟨o,_,_,ho,_⟩,_⟩:=I.loc;exact free _ o (λz=>(hch _ z).2.1 rfl) ho I.free
 .obtain ⟨v,o,ho,hd⟩:=I.cell x c e;exact free c o (λz=>(hch c z).2.2.1 x c e rfl) ho (I.freeC x c e)
 .obtain ⟨e,n,ne,nf,d⟩:=I.pin p hp;have nch:p.1∉ch:=λz=>(hch p.1 z).2.2.2 p hp rfl;exact ⟨keep p.1 p.2 ne nf nch e n,free p.1 p.2 nch e n,ne,nf,d⟩
theorem Inv.un{t':Nat}(I:Inv X pins Z H s)(u:Un X.fs [] H H' s.heap h')(hok:HOk X.prog X.w H' h'):Inv X pins Z H' {s with heap:=h',toks:=t' }:=by
 obtain ⟨m,⟨o,es,ep,ho,r⟩,_⟩:=id I.loc;obtain ⟨sl,hL⟩:=u.any ho I.free (by simp)
 exact I.step (g':=s.gens) (d':=s.drawn) (ch:=[]) (λ_ z=>nomatch z) (λb o _ hb _ e n=>u.keep b o e n hb (by simp)) (λb o _ hb _ e n=>u.slot b o e n hb (by simp)) (λb o _ e n=>u.free b o e n (by simp)) (λb o _ e=>u.there b o e (by simp)) u.tups u.frzs u.tbls (λm' hm=>by
  obtain ⟨o',es',ep',ho',r'⟩:=hm;rw [ho] at ho';cases ho'
  exact ⟨_,es',ep',hL,r'⟩) hok I.bare
theorem Inv.call{g':Array GenState}{t':Nat}{d':Drawn}{ch:List Addr}(I:Inv X pins Z H s)(u:Un (frs X.stack) ch H H' s.heap h')(hok:HOk X.prog X.w H' h')(hg:AllBare g')
  (hch:∀b∈ch,(b∈X.ex\/X.s₀.heap.objs.size<=b)/\b≠X.env.locals/\(∀x c,X.env.cells.lookup x=some c->c≠b)/\∀p∈X.pn++pins,p.1≠b) :
  Inv X pins Z H' {s with heap:=h',gens:=g',drawn:=d',toks:=t' }:=by
 obtain ⟨m,⟨o,es,ep,ho,r⟩,_⟩:=id I.loc;obtain ⟨sl,hL⟩:=u.any ho I.free λz=>(hch _ z).2.1 rfl;exact I.step (ch:=ch) hch (λb o hL hb hc e n=>u.keep b o e n (λz=>(aC.mp (I.stkSub b z)).elim hL hb) hc) (λb o _ _ hc e n=>u.any e n hc) (λb o hc e n=>u.free b o e n hc) (λb o hc e=>u.there b o e hc) u.tups u.frzs u.tbls (λm' hm=>by
  obtain ⟨o',es',ep',ho',r'⟩:=hm;rw [ho] at ho';cases ho'
  exact ⟨_,es',ep',hL,r'⟩) hok hg
theorem Inv.turned{t':Nat}{it:Addr}(I:Inv X pins Z H s)(k:∀b o,b≠it->s.heap.get? b=some o->h'.get? b=some o)(hn:H it=none)(hL:it≠X.env.locals)
  (h1:it∈X.ex\/X.s₀.heap.objs.size<=it) (h2:∀x c,X.env.cells.lookup x=some c->c≠it) (h3:∀p∈X.pn++pins,p.1≠it):Inv X pins Z H {s with heap:=h',toks:=t' }:=by
 have nit:∀b u,H b=some u->b≠it:=λb u e z=>by rw [z,hn] at e;cases e
 refine I.step (g':=s.gens) (d':=s.drawn) (ch:=[it]) (λb hb=>?_) (λb o _ _ hc e _=>k b o (λz=>hc (by simp [z])) e) (λb o _ _ hc e _=>⟨o.slots,k b o (λz=>hc (by simp [z])) e⟩) (λ_ _ _ _ n=>n)
  (λb o hc e=>⟨o,k b o (λz=>hc (by simp [z])) e⟩) (λ_ _ e=>e) (λ_ _ _ e=>e) (λb ps e=>⟨#[],by rw [e];simp⟩) (λm hm=>?_) (λb u e=>?_) I.bare
 .have e:b=it:=by simpa using hb
  subst e;exact ⟨h1,hL,h2,h3⟩
 .obtain ⟨o,es,ep,ho,r⟩:=hm;exact ⟨o,es,ep,k _ o (ee hL) ho,r⟩
 .refine (I.hok b u e).stay (λc v hc q=>k c v ?_ q) (λ_ q=>q) λ_ _ q=>q
  rcases hc with z|z
  .rw [z];exact nit b u e
  .exact nit c _ z
theorem Inv.tok(I:Inv X pins Z H s)(t:Nat):Inv X pins Z H {s with toks:=t}:=I.un (h':=s.heap) (t':=t) Un.refl I.hok
theorem Inv.kept(I:Inv X pins Z H s)(k:∀b u,s.heap.get? b=some u->h'.get? b=some u):Inv X pins Z H {s with heap:=h',toks:=t' }:=I.un (Un.kept k) (I.hok.kept k)
theorem Inv.laid(I:Inv X pins Z H s)(k:∀b u,s.heap.get? b=some u->h'.get? b=some u)(hp:s.heap.objs.size<=a)(new:ObjOk X.prog X.w (upd H a o) h' a o) :
  Inv X pins Z (upd H a o) {s with heap:=h',toks:=t' }:=I.un (Un.laid k hp (I.hok.fresh hp)) (I.hok.laid k hp new)
theorem Inv.write(I:Inv X pins Z H s)(mu:Mut (H x))(he:e=x\/H e=some (.own x))(k:∀b u,b≠e->s.heap.get? b=some u->h'.get? b=some u)(heo:∃u,h'.get? e=some u)
  (new:ObjOk X.prog X.w (upd H x o) h' x o):Inv X pins Z (upd H x o) {s with heap:=h',toks:=t' }:=I.un (Un.write mu he k heo) (I.hok.write mu he k heo new)
theorem Inv.weak{Z':List (Option V)}(I:Inv X pins Z H s)(hl:Z'.length=Z.length)(w:∀(i:Nat) v,Z'[i]? = some (some v)->Z[i]? = some (some v)):Inv X pins Z' H s :=
 ⟨I.ok,I.os,I.bare,I.base,let ⟨m,hn,hl'⟩:=I.loc; ⟨m,hn,λi x v e1 e2 e3=>hl' i x v e1 (w i v e2) e3⟩,I.cell,I.free,I.freeC,I.pin,I.hok,hl.trans I.len⟩
theorem Inv.pins_of(I:Inv X pins Z H s)(h:∀p∈pins',s.heap.get? p.1=some p.2/\H p.1=none/\p.1≠X.env.locals/\p.1∉X.fs/\∀v,p.2.data≠.cell v):Inv X pins' Z H s :=
 ⟨I.ok,I.os,I.bare,I.base,I.loc,I.cell,I.free,I.freeC,λp hp=>(aZ.mp hp).elim (λz=>I.pin p (dn _ z)) (h p),I.hok,I.len⟩
theorem ae4{N:List Str}(hN:N.Nodup){i j:Nat}(a:N[i]? = some x)(b:N[j]? = some x):i=j:=by
 obtain ⟨h1,e1⟩:=am.mp a;obtain ⟨h2,e2⟩:=am.mp b;exact (List.getElem_inj hN).mp (e1.trans e2.symm)
theorem aat{i:Nat}(I:Inv X pins Z H s)(hN:X.N.Nodup)(hi:X.N[i]? = some x)(hx:Loc X.env.scope x)(r:RelV v u)
  (h:∀s',Inv X pins (Z.set i (some v)) H s'->(∃a,Heap.SameBut a s.heap s'.heap/\(a=X.env.locals\/X.env.cells.lookup x=some a))->Q () s') (hf:X.fn x=true\/X.env.scope.names.lookup x=some .local:=by first|exact .inl rfl|exact .inr rfl|assumption):wpAny M A (storeName X.env x u) Q E s:=by
 obtain ⟨m,hn,hl⟩:=id I.loc;have hcls:(X.env.scope.kind == .class || (X.env.scope.kind == .module && X.env.locals != X.env.globals))=false:=by rw [I.ok.kind];rfl
 have hiZ:i<Z.length:=by rw [I.len];exact (am.mp hi).1
 have cne:=I.cne;have tracked:∀{a:Addr} {h':Heap},(∃o,s.heap.get? a=some o/\H a=none)->Heap.SameBut a s.heap h'->HOk X.prog X.w H h':=λ{a h'} ha hs b ob e=>by
  obtain ⟨_,_,hfree⟩:=ha;refine (I.hok b ob e).stay (λc w' hc q=>(hs.2 c ?_).trans q) (λ_ q=>q) λ_ _ q=>q
  rintro rfl
  rcases hc with rfl|hc
  .rw [hfree] at e;cases e
  .rw [hfree] at hc;cases hc
 rcases hx with hk|hk
 .refine wpAny_storeName_local hk hn (λh' hn' hs=>?_) hcls;obtain ⟨oL,_,_,hoL,_⟩:=id hn;refine h _ ⟨I.ok,I.os,I.bare,⟨λb o e n hb hx=>?_,λb o e n hb hx=>?_,I.base.free,λb o e hx=>?_,I.base.tups,I.base.frzs,I.base.tbls⟩,⟨_,hn',λj y v' e1 e2 e3=>?_⟩,λy c e=>?_,I.free,I.freeC,λp hp=>?_,tracked ⟨oL,hoL,I.free⟩ hs,by simpa using I.len⟩ ⟨_,hs,.inl rfl⟩
  .exact (hs.2 b (aV (aM (aG e) I.ok.above))).trans (I.base.keep b o e n hb hx)
  .obtain ⟨sl,e1⟩:=I.base.slot b o e n hb hx;exact ⟨sl,(hs.2 b (aV (aM (aG e) I.ok.above))).trans e1⟩
  .obtain ⟨o',e1⟩:=I.base.there b o e hx;exact ⟨o',(hs.2 b (aV (aM (aG e) I.ok.above))).trans e1⟩
  .by_cases hj:j=i
   .subst hj;rw [hi] at e1;cases e1
    rw [cD hiZ] at e2;cases e2
    exact ⟨u,r,.inl ⟨hk,by simp⟩⟩
   .rw [dv (ee hj)] at e2;obtain ⟨u',r',q⟩:=hl j y v' e1 e2 e3;refine ⟨u',r',?_⟩
    rcases q with ⟨k,e⟩|⟨k,c,e,z⟩
    .refine .inl ⟨k,?_⟩;have:y≠x:=λe=>hj (ae4 hN e1 (e ▸ hi));simp [this,e]
    .exact .inr ⟨k,c,e,z.sameBut hs (cne y c e)⟩
  .obtain ⟨w',z⟩:=I.cell y c e;exact ⟨w',z.sameBut hs (cne y c e)⟩
  .obtain ⟨e,n,ne,nf,d⟩:=I.pin p hp;exact ⟨(hs.2 p.1 ne).trans e,n,ne,nf,d⟩
 .have hfn:X.fn x=true:=by
   rcases hf with z|z
   .exact z
   .rw [z] at hk;cases hk
  obtain ⟨c,hc⟩:=I.ok.has x (.inl hk);obtain ⟨w',z⟩:=I.cell x c hc;refine wpAny_storeName_cell I.ok.kind hk hc z (λh' hc' hs=>?_);obtain ⟨oc,hoc,hocd⟩:=id z;refine h {s with heap:=h' } ⟨I.ok,I.os,I.bare,⟨λb o e n hb hx=>?_,λb o e n hb hx=>?_,I.base.free,λb o e hx=>?_,I.base.tups,I.base.frzs,I.base.tbls⟩,⟨m,hn.sameBut hs (ee (cne x c hc)),λj y v' e1 e2 e3=>?_⟩,λy c' e=>?_,I.free,I.freeC,λp hp=>?_,tracked ⟨oc,hoc,I.freeC x c hc⟩ hs,by simpa using I.len⟩ ⟨c,hs,.inr hc⟩
  .exact (hs.2 b (aV (aM (aG e) (I.ok.cab x c hfn hc)))).trans (I.base.keep b o e n hb hx)
  .obtain ⟨sl,e1⟩:=I.base.slot b o e n hb hx;exact ⟨sl,(hs.2 b (aV (aM (aG e) (I.ok.cab x c hfn hc)))).trans e1⟩
  .obtain ⟨o',e1⟩:=I.base.there b o e hx;exact ⟨o',(hs.2 b (aV (aM (aG e) (I.ok.cab x c hfn hc)))).trans e1⟩
  .by_cases hj:j=i
   .subst hj;rw [hi] at e1;cases e1
    rw [cD hiZ] at e2;cases e2
    exact ⟨u,r,.inr ⟨.inl hk,c,hc,hc'⟩⟩
   .rw [dv (ee hj)] at e2;obtain ⟨u',r',q⟩:=hl j y v' e1 e2 e3;refine ⟨u',r',?_⟩
    rcases q with q|⟨k,c',e,z'⟩
    .exact .inl q
    .refine .inr ⟨k,c',e,z'.sameBut hs ?_⟩
     rintro rfl
     exact hj (ae4 hN e1 (I.ok.inj _ _ _ e hc ▸ hi))
  .by_cases hcc:c'=c
   .subst hcc;exact ⟨_,hc'⟩
   .obtain ⟨w2,z2⟩:=I.cell y c' e;exact ⟨w2,z2.sameBut hs hcc⟩
  .obtain ⟨e,n,ne,nf,d⟩:=I.pin p hp;refine ⟨(hs.2 p.1 ?_).trans e,n,ne,nf,d⟩
   intro q
   rw [q,hoc] at e;have q':oc=p.2:=bK e;exact d w' (by rw [<-q'];exact hocd)
theorem ae5(I:Inv X pins Z H s)(hN:X.N.Nodup)(hi:X.N[i]? = some x)(hx:Loc X.env.scope x)(r:RelV v u)
  (h:∀s',Inv X pins (Z.set i (some v)) H s'->Q () s') (hf:X.fn x=true\/X.env.scope.names.lookup x=some .local:=by first|exact .inl rfl|exact .inr rfl|assumption):wpAny M A (storeName X.env x u) Q E s :=
 aat I hN hi hx r (λs' I' _=>h s' I') hf
end
abbrev XK:=Value->Option Addr->Hp->Prop
abbrev St:=List (Option V)
abbrev VK:=V->Hp->Prop
abbrev TE:=St->Hp->VK->Prop
abbrev TT:=St->Hp->(Bool->Hp->Prop)->Prop
abbrev TA:=St->Hp->(List V->Hp->Prop)->Prop
structure Ends where
 nx:St->Hp->Prop
 rt:VK
 bk:St->Hp->Prop:=λ_ _=>False
 ct:St->Hp->Prop:=λ_ _=>False
abbrev TS:=Ends->St->Hp->Prop
def EP(X:Cx)(pins:List (Addr×Obj))(Z:St)(Q:VK)(u:Value)(s':Shared):Prop:=∃v H',Inv X pins Z H' s'/\RelV v u/\Q v H'
def TP(X:Cx)(pins:List (Addr×Obj))(Z:St)(Q:Bool->Hp->Prop)(b:Bool)(s':Shared):Prop:=∃H',Inv X pins Z H' s'/\Q b H'
def AP(X:Cx)(pins:List (Addr×Obj))(Z:St)(Q:List V->Hp->Prop)(us:List Value)(s':Shared):Prop:=∃vs H',Inv X pins Z H' s'/\Vals vs us/\Q vs H'
def SP(X:Cx)(pins:List (Addr×Obj))(D:Ends)(f:Flow)(s':Shared):Prop :=
 match f with
 |.next=>∃Z' H',Inv X pins Z' H' s'/\D.nx Z' H'
 |.brk=>∃Z' H',Inv X pins Z' H' s'/\D.bk Z' H'
 |.cont=>∃Z' H',Inv X pins Z' H' s'/\D.ct Z' H'
 |.ret u=>∃v Z' H',Inv X pins Z' H' s'/\RelV v u/\D.rt v H'
def PE(X:Cx)(e:Expr)(t:TE):Prop :=
 ∀(pins:List (Addr×Obj)) (s:Shared) (Z:St) (H:Hp) (Q:VK),Inv X pins Z H s->t Z H Q->wpAny (model X.prog X.w) X.A (eval e X.env) (EP X pins Z Q) X.xe s
def PT(X:Cx)(e:Expr)(t:TT):Prop :=
 ∀(pins:List (Addr×Obj)) (s:Shared) (Z:St) (H:Hp) (Q:Bool->Hp->Prop),Inv X pins Z H s->t Z H Q->wpAny (model X.prog X.w) X.A (isTrue e X.env (eval e X.env)) (TP X pins Z Q) X.xe s
def PW(X:Cx)(e:Expr)(t:TT):Prop :=
 ∀(whole:Sem Value) (pins:List (Addr×Obj)) (s:Shared) (Z:St) (H:Hp) (Q:Bool->Hp->Prop),Inv X pins Z H s->t Z H Q->wpAny (model X.prog X.w) X.A (isTrue e X.env whole) (TP X pins Z Q) X.xe s
theorem PW.pt(h:PW X e t):PT X e t:=h _
def PA(X:Cx)(es:List Expr)(t:TA):Prop :=
 ∀(pos:Pos) (pins:List (Addr×Obj)) (s:Shared) (Z:St) (H:Hp) (Q:List V->Hp->Prop),Inv X pins Z H s->t Z H Q->wpAny (model X.prog X.w) X.A (spliced (backTo pos (starEach es X.env))) (AP X pins Z Q) X.xe s
def PS(X:Cx)(st:Stmt)(t:TS):Prop :=
 ∀(pins:List (Addr×Obj)) (s:Shared) (Z:St) (H:Hp) (D:Ends),Inv X pins Z H s->t D Z H->wpAny (model X.prog X.w) X.A (exec st X.env) (SP X pins D) X.xe s
def PSs(X:Cx)(st:List Stmt)(t:TS):Prop :=
 ∀(pins:List (Addr×Obj)) (s:Shared) (Z:St) (H:Hp) (D:Ends),Inv X pins Z H s->t D Z H->wpAny (model X.prog X.w) X.A (execs st X.env) (SP X pins D) X.xe s
theorem thn{α:Type}{t:Sem α}{Q Q':α->Shared->Prop}{M:Model}{A:Around}{E:Value->Shared->Prop}{s:Shared}(h:wpAny M A t Q E s)(hQ:∀a s,Q a s->Q' a s):wpAny M A t Q' E s:=bF h hQ λ_ _ x=>x
section
variable{X:Cx}
def b14(i:Nat):TE:=λZ H Q=>∃v,Z[i]? = some (some v)/\Q v H
def tC(v:V):TE:=λ_ H Q=>Q v H
theorem atu(hN:X.N[i]? = some x)(hv:Vis X.env.scope x)(hd:(x == ("__debug__" : Str))=false:=by decide)(hcd:(x == ("__classdict__" : Str))=false:=by decide):PE X (.Name x pos) (b14 i):=by
 intro pins s Z H Q I h
 obtain ⟨v,e,h⟩:=h;obtain ⟨m,hn,hl⟩:=I.loc;obtain ⟨u,r,l⟩:=hl i x v hN e hv;have fin:EP X pins Z Q u s:=⟨v,H,I,r,h⟩
 rcases l with ⟨hk,hm⟩|⟨hk,c,hc,hcell⟩
 .exact wpAny_Name (wpAny_loadName_local I.ok.kind hk hn hm fin) hd
 .rcases hk with hk|hk
  .exact wpAny_Name (wpAny_loadName_cell I.ok.kind hk hc hcell fin) hd
  .exact wpAny_Name (wpAny_loadName_free I.ok.kind hk hc hcell fin hcd) hd
theorem atv{i j pos}:PE X (.Constant (.int i) j pos) (tC (.int i)):=λ_ _ _ H _ I h=>wpAny_Constant_int ⟨.int i,H,I.tok _,⟨_,rfl⟩,h⟩
theorem ay9{b j pos}:PE X (.Constant (.bool b) j pos) (tC (.bl b)):=λ_ _ _ H _ I h=>Constant_bool ⟨.bl b,H,I,rfl,h⟩
theorem atw{j pos}:PE X (.Constant .none j pos) (tC .non):=λ_ _ _ H _ I h=>Constant_none ⟨.non,H,I,rfl,h⟩
theorem atx{x j pos}:PE X (.Constant (.str x) j pos) (tC (.str x)):=λ_ _ _ H _ I h=>Calls.Constant_str ⟨.str x,H,I.tok _,⟨_,rfl⟩,h⟩
def Gl(X:Cx)(x:Str):Prop:=X.env.kindOf x=some .globalImplicit
theorem ahq(I:Inv X pins Z H s)(hg:Gl X x)(hm:X.mg x=some u)(h:Q u s)
  (hd:(x == ("__debug__" : Str))=false:=by decide):wpAny (model X.prog X.w) X.A (eval (.Name x pos) X.env) Q E s :=
 Calls.Name_function_global I.ok.kind hg (Calls.loadGlobal_global (by rw [I.ok.glob];exact I.mod.glob.keeps I.bk) hm h) hd
theorem a2z(I:Inv X pins Z H s)(hg:Gl X x)(hm:X.mg x=none)(hv:bootBuiltins x=some u)(h:Q u s)
  (hn:x ≠ "__name__":=by decide) (hd:(x == ("__debug__" : Str))=false:=by decide):wpAny (model X.prog X.w) X.A (eval (.Name x pos) X.env) Q E s:=by
 obtain ⟨mb,h1,h2⟩:=I.mod.blt;exact Calls.Name_function_global I.ok.kind hg (Calls.loadGlobal_builtin (by rw [I.ok.glob];exact I.mod.glob.keeps I.bk) hm (by rw [I.ok.blt];exact h1.keeps I.bk) ((h2 x hn).trans hv) h) hd
theorem aq1(hg:Gl X x)(hm:X.mg x=none)(hv:bootBuiltins x=some u)(r:RelV v u)(hn:x ≠ "__name__":=by decide)(hd:(x == ("__debug__" : Str))=false:=by decide):PE X (.Name x pos) (tC v) :=
 λ_ _ _ H _ I h=>a2z I hg hm hv ⟨v,H,I,r,h⟩ hn hd
variable{a b:Expr}{ta tb:TE}{pos:Pos}
variable{tA tB':TT}{rest:List Expr}
def b15(t u:TT):TT:=λZ H Q=>t Z H λc H1=>if c=true then u Z H1 Q else Q false H1
def tOr(t u:TT):TT:=λZ H Q=>t Z H λc H1=>if c=true then Q true H1 else u Z H1 Q
def b16(t:TT):TT:=λZ H Q=>t Z H λc H1=>Q (!c) H1
theorem aq2(ha:PT X a tA):PW X (.BoolOp .And [a] pos) tA:=by
 intro wh pins s Z H Q I h
 refine isTrue_and (thn (ha pins s Z H Q I h) λc s1 e=>?_)
 cases c with
 |true=>exact isTrue_and_nil e
 |false=>exact e
theorem aty(ha:PT X a tA):PW X (.BoolOp .Or [a] pos) tA:=by
 intro wh pins s Z H Q I h
 refine isTrue_or (thn (ha pins s Z H Q I h) λc s1 e=>?_)
 cases c with
 |false=>exact isTrue_or_nil e
 |true=>exact e
theorem atz(ha:PT X a tA)(hb:PW X (.BoolOp .And (b::rest) pos) tB'):PW X (.BoolOp .And (a::b::rest) pos) (b15 tA tB'):=by
 intro wh pins s Z H Q I h
 refine isTrue_and (thn (ha pins s Z H _ I h) λc s1 ⟨H1,I1,q1⟩=>?_)
 cases c with
 |true=>exact hb wh pins s1 Z H1 Q I1 q1
 |false=>exact ⟨H1,I1,q1⟩
theorem aya(ha:PT X a tA)(hb:PW X (.BoolOp .Or (b::rest) pos) tB'):PW X (.BoolOp .Or (a::b::rest) pos) (tOr tA tB'):=by
 intro wh pins s Z H Q I h
 refine isTrue_or (thn (ha pins s Z H _ I h) λc s1 ⟨H1,I1,q1⟩=>?_)
 cases c with
 |true=>exact ⟨H1,I1,q1⟩
 |false=>exact hb wh pins s1 Z H1 Q I1 q1
theorem au0(ha:PT X a tA):PT X (.UnaryOp .Not a pos) (b16 tA):=by
 intro pins s Z H Q I h
 exact isTrue_not (ha pins s Z H (λc H1=>Q (!c) H1) I h)
noncomputable def ayb(ta tb:TE):TE:=λZ H Q=>ta Z H λx H1=>∃c,x=.bl c/\if c=true then tb Z H1 Q else Q (.bl false) H1
def ayc(ta:TE):TE:=λZ H Q=>ta Z H λx H1=>∃c,x=.bl c/\Q (.bl (!c)) H1
theorem au1{op}(h:PE X a t):PE X (.BoolOp op [a] pos) t:=λpins s Z H Q I hw=>BoolOp_one (h pins s Z H Q I hw)
theorem au2(ha:PE X a ta)(hb:PE X (.BoolOp .And (b::rest) pos) tb):PE X (.BoolOp .And (a::b::rest) pos) (ayb ta tb):=by
 intro pins s Z H Q I h
 refine BoolOp_and (thn (ha pins s Z H _ I h) λv s1 ⟨x,H1,I1,r1,q1⟩=>?_);obtain ⟨c,rfl,q1⟩:=q1;cases r1
 refine eh ?_
 cases c with
 |true=>exact hb pins s1 Z H1 Q I1 q1
 |false=>exact ⟨.bl false,H1,I1,rfl,q1⟩
theorem au3(ha:PE X a ta):PE X (.UnaryOp .Not a pos) (ayc ta):=by
 intro pins s Z H Q I h
 refine UnaryOp_ (thn (ha pins s Z H _ I h) λv s1 ⟨x,H1,I1,r1,q1⟩=>?_);obtain ⟨c,rfl,q1⟩:=q1;cases r1
 exact not_of (eh ⟨.bl (!c),H1,I1,rfl,q1⟩)
def tIf(t:TT)(ta tb:TE):TE:=λZ H Q=>t Z H λc H1=>if c=true then ta Z H1 Q else tb Z H1 Q
theorem am1{c:Expr}(hc:PT X c tA)(ha:PE X a ta)(hb:PE X b tb):PE X (.IfExp c a b pos) (tIf tA ta tb):=by
 intro pins s Z H Q I h
 refine wpAny_IfExp (thn (hc pins s Z H _ I h) λd s1 ⟨H1,I1,q1⟩=>?_)
 cases d with
 |true=>exact ha pins s1 Z H1 Q I1 q1
 |false=>exact hb pins s1 Z H1 Q I1 q1
end
def SqL(K:PySem.W.Frag)(H:Hp)(a:Addr)(xs:List V):Prop :=
 Rd H a (.lst xs) \/
  ∃(o:Obj) (its:Array Value) (n:Nat),K.lookup a=some o/\o.cls=.type "list"/\o.dict=none/\o.data=.seq its n/\its.size<=sizeLine/\Vals xs its.toList
def SqT(K:PySem.W.Frag)(H:Hp)(a:Addr)(xs:List V):Prop :=
 Rd H a (.tup xs) \/
  ∃(o:Obj) (its:Array Value) (n:Nat),K.lookup a=some o/\o.cls=.type "tuple"/\o.data=.seq its n/\its.size<=sizeLine/\Vals xs its.toList
noncomputable def b17:Value->Option V
 |.none=>some .non
 |.bool b=>some (.bl b)
 |.int i _=>some (.int i)
 |.str x _=>some (.str x)
 |.bytes b _=>some (.byt b)
 |.float b _=>some (.flt b)
 |.ref a=>some (.ref a)
 |.type n=>some (.ty n)
 |_=>none
theorem RelV.abs(r:RelV x u):b17 u=some x:=by
 cases x with
 |non=>cases r;rfl
 |bl _=>cases r;rfl
 |int _=>obtain ⟨t,rfl⟩:=r;rfl
 |str _=>obtain ⟨t,rfl⟩:=r;rfl
 |byt _=>obtain ⟨t,rfl⟩:=r;rfl
 |flt _=>obtain ⟨t,rfl⟩:=r;rfl
 |ref _=>cases r;rfl
 |ty _=>cases r;rfl
theorem RelV.inj(r:RelV x u)(q:RelV y u):x=y:=bK (r.abs.symm.trans q.abs)
theorem Vals.inj:∀{xs ys:List V} {us:List Value},Vals xs us->Vals ys us->xs=ys
 |_,_,_,.nil,.nil=>rfl
 |_,_,_,.cons r t,.cons r' t'=>by rw [r.inj r',Vals.inj t t']
section
variable{X:Cx}{pins:List (Addr×Obj)}{Z:St}{H:Hp}{s:Shared}{a:Addr}{xs ys:List V}
theorem SqL.of{K:PySem.W.Frag}(h:H a=some (.lst xs)):SqL K H a xs:=.inl (.inl h)
theorem SqT.of{K:PySem.W.Frag}(h:H a=some (.tup xs)):SqT K H a xs:=.inl (.inl h)
theorem Inv.list(I:Inv X pins Z H s)(h:SqL X.K H a xs):∃its:List Value,Vals xs its/\PlainL s.heap a its.toArray/\xs.length<=sizeLine:=by
 rcases h with h|⟨o,its,n,hk,hc,hd,hs,hz,r⟩
 .obtain ⟨z,its,n,r,e⟩:=h.ok I.hok;exact ⟨its,r,⟨_,n,e,rfl,rfl,rfl⟩,z⟩
 .refine ⟨its.toList,r,⟨o,n,I.kIn a o hk,hc,hd,by simpa using hs⟩,?_⟩
  have e:=r.length;simp only [aO] at e;omega
theorem Inv.tuple(I:Inv X pins Z H s)(h:SqT X.K H a xs):∃its:List Value,Vals xs its/\IsTup s.heap a its.toArray/\xs.length<=sizeLine:=by
 rcases h with h|⟨o,its,n,hk,hc,hs,hz,r⟩
 .obtain ⟨z,its,r,p⟩:=h.ok I.hok;exact ⟨its,r,p,z⟩
 .refine ⟨its.toList,r,⟨o,I.kIn a o hk,hc,n,by simpa using hs⟩,?_⟩
  have e:=r.length;simp only [aO] at e;omega
theorem Inv.list_inj(I:Inv X pins Z H s)(h:SqL X.K H a xs)(h':SqL X.K H a ys):xs=ys:=by
 obtain ⟨its,r,⟨o,n,e,_,_,d⟩,_⟩:=I.list h;obtain ⟨its',r',⟨o',n',e',_,_,d'⟩,_⟩:=I.list h';rw [e] at e';cases e'
 rw [d] at d'
 injection d' with d1 _
 have:its=its':=by simpa using ah Array.toList d1
 subst this;exact r.inj r'
theorem Inv.tuple_inj(I:Inv X pins Z H s)(h:SqT X.K H a xs)(h':SqT X.K H a ys):xs=ys:=by
 obtain ⟨its,r,⟨o,e,_,n,d⟩,_⟩:=I.tuple h;obtain ⟨its',r',⟨o',e',_,n',d'⟩,_⟩:=I.tuple h';rw [e] at e';cases e'
 rw [d] at d'
 injection d' with d1 _
 have:its=its':=by simpa using ah Array.toList d1
 subst this;exact r.inj r'
end
abbrev Cx.wish(X:Cx)(E:Value->Shared->Prop):Cx:={X with xe:=E}
abbrev Cx.nox(X:Cx):Cx:=X.wish λ_ _=>False
theorem Cx.Ok.wish{X:Cx}(ok:X.Ok)(E:Value->Shared->Prop):(X.wish E).Ok :=
 ⟨ok.mod,ok.kind,ok.glob,ok.blt,ok.above,ok.inj,ok.has,ok.cab,ok.hd,ok.frames,ok.stk,ok.exf,ok.bs,ok.bsz,ok.noex,ok.exfs,ok.funs,ok.frf⟩
theorem Cx.Ok.unwish{X:Cx}(ok:(X.wish E).Ok):X.Ok :=
 ⟨ok.mod,ok.kind,ok.glob,ok.blt,ok.above,ok.inj,ok.has,ok.cab,ok.hd,ok.frames,ok.stk,ok.exf,ok.bs,ok.bsz,ok.noex,ok.exfs,ok.funs,ok.frf⟩
section
variable{X:Cx}{pins:List (Addr×Obj)}{Z:St}{H:Hp}{s:Shared}{E:Value->Shared->Prop}
theorem Inv.wish(I:Inv X pins Z H s)(E:Value->Shared->Prop):Inv (X.wish E) pins Z H s:=⟨I.ok.wish E,I.os,I.bare,I.base,I.loc,I.cell,I.free,I.freeC,I.pin,I.hok,I.len⟩
theorem Inv.unwish(I:Inv (X.wish E) pins Z H s):Inv X pins Z H s:=⟨I.ok.unwish,I.os,I.bare,I.base,I.loc,I.cell,I.free,I.freeC,I.pin,I.hok,I.len⟩
theorem SP.unwish(h:SP (X.wish E) pins D f s'):SP X pins D f s':=by
 cases f with
 |next=>obtain ⟨Z',H',I,q⟩:=h;exact ⟨Z',H',I.unwish,q⟩
 |brk=>obtain ⟨Z',H',I,q⟩:=h;exact ⟨Z',H',I.unwish,q⟩
 |cont=>obtain ⟨Z',H',I,q⟩:=h;exact ⟨Z',H',I.unwish,q⟩
 |ret u=>obtain ⟨v,Z',H',I,r,q⟩:=h;exact ⟨v,Z',H',I.unwish,r,q⟩
theorem PSs.nox{st:List Stmt}{t:TS}(h:PSs X.nox st t):PSs X st t:=λpins s Z H D I hw =>
 bF (h pins s Z H D (I.wish _) hw) (λ_ _ q=>q.unwish) λ_ _ z=>False.elim z
end
section
variable{X:Cx}{st:Stmt}{rest:List Stmt}{t u:TS}{e:Expr}{te:TE}{pos:Pos}
def ayd:TS:=λD Z H=>D.nx Z H
def b19(t u:TS):TS:=λD Z H=>t {D with nx:=u D} Z H
theorem aq3:PSs X [] ayd:=λ_ _ Z H _ I h=>gO ⟨Z,H,I,h⟩
theorem am2(h1:PS X st t)(h2:PSs X rest u):PSs X (st::rest) (b19 t u):=by
 intro pins s Z H D I h
 refine wpAny_execs_cons (thn (h1 pins s Z H {D with nx:=u D} I h) λf s1 q=>?_)
 cases f with
 |next =>
  obtain ⟨Z',H',I',q⟩:=q;exact h2 pins s1 Z' H' D I' q
 |ret v=>exact q
 |brk=>exact q
 |cont=>exact q
theorem aq4(h1:PS X st t):PSs X [st] t:=by
 intro pins s Z H D I h
 refine wpAny_execs_cons (thn (h1 pins s Z H D I h) λf s1 q=>?_)
 cases f with
 |next=>exact gO q
 |ret v=>exact q
 |brk=>exact q
 |cont=>exact q
theorem Inv.quiet(I:Inv X pins Z H s):interactive X.env=false:=by simp [interactive,I.ok.kind]
def aye(te:TE):TS:=λD Z H=>te Z H λ_ H1=>D.nx Z H1
theorem aq5(he:PE X e te)(hs:swapsWith e none pos.line X.env=pure false:=by rfl):PS X (.Expr e pos) (aye te):=by
 intro pins s Z H D I h
 exact wpAny_Expr_any (thn (he pins s Z H _ I h) λv s1 ⟨x,H1,I1,r1,q1⟩=>⟨Z,H1,I1,q1⟩) I.quiet hs
def b1a(te:TE):TS:=λD Z H=>te Z H D.rt
theorem au4(he:PE X e te):PS X (.Return (some e) pos) (b1a te):=by
 intro pins s Z H D I h
 exact wpAny_Return_some (thn (he pins s Z H _ I h) λv s1 ⟨x,H1,I1,r1,q1⟩=>⟨x,Z,H1,I1,r1,q1⟩)
def b1b(c:TT)(t u:TS):TS:=λD Z H=>c Z H λb H1=>if b=true then t D Z H1 else u D Z H1
theorem ayf{c:Expr}{a b:List Stmt}{tc:TT}(hc:PT X c tc)(ha:PSs X a t)(hb:PSs X b u):PS X (.If c a b pos) (b1b tc t u):=by
 intro pins s Z H D I h
 refine wpAny_If (thn (hc pins s Z H _ I h) λd s1 ⟨H1,I1,q1⟩=>?_)
 cases d with
 |true=>exact ha pins s1 Z H1 D I1 q1
 |false=>exact hb pins s1 Z H1 D I1 q1
end
abbrev TG:=V->St->Hp->(St->Hp->Prop)->Prop
abbrev TGs:=List V->St->Hp->(St->Hp->Prop)->Prop
def PG(X:Cx)(target:Expr)(t:TG):Prop :=
 ∀(pins:List (Addr×Obj)) (s:Shared) (Z:St) (H:Hp) (v:V) (u:Value) (Q:St->Hp->Prop),Inv X pins Z H s->RelV v u->t v Z H Q->
  wpAny (model X.prog X.w) X.A (assign target X.env u) (λ_ s'=>∃Z' H',Inv X pins Z' H' s'/\Q Z' H') X.xe s
def PGs(X:Cx)(ts:List Expr)(t:TGs):Prop :=
 ∀(pins:List (Addr×Obj)) (s:Shared) (Z:St) (H:Hp) (vs:List V) (us:List Value) (Q:St->Hp->Prop),Inv X pins Z H s->Vals vs us->t vs Z H Q->
  wpAny (model X.prog X.w) X.A (assignInOrder ((assignEach ts X.env).map (·.2)) us) (λ_ s'=>∃Z' H',Inv X pins Z' H' s'/\Q Z' H') X.xe s
abbrev ayg:=V->V->V->Hp->(Hp->Prop)->Prop
def azy(X:Cx)(t:ayg):Prop :=
 ∀(pins:List (Addr×Obj)) (s:Shared) (Z:St) (H:Hp) (o i v:V) (ov iv u:Value) (Q:Hp->Prop),Inv X pins Z H s->RelV o ov->RelV i iv->RelV v u->t o i v H Q->
  wpAny (model X.prog X.w) X.A (setItem ov iv u) (λ_ s'=>∃H',Inv X pins Z H' s'/\Q H') X.xe s
section
variable{X:Cx}{pos:Pos}
def a1d(i:Nat):TG:=λv Z H Q=>Q (Z.set i (some v)) H
theorem a92(hN:X.N.Nodup)(hi:X.N[i]? = some x)(hx:Loc X.env.scope x)(hf:X.fn x=true\/X.env.scope.names.lookup x=some .local:=by first|exact .inl rfl|exact .inr rfl|assumption):PG X (.Name x pos) (a1d i):=by
 intro pins s Z H v u Q I r h
 exact wpAny_assign_Name (ae5 I hN hi hx r (λs' I'=>⟨_,H,I',h⟩) hf)
def ayh:TGs:=λvs Z H Q=>vs=[]/\Q Z H
def acn(t:TG)(u:TGs):TGs:=λvs Z H Q=>∃v r,vs=v::r/\t v Z H λZ' H'=>u r Z' H' Q
theorem a3h:PGs X [] ayh:=by
 intro pins s Z H vs us Q I r h
 obtain ⟨e,h⟩:=h;subst e;cases r
 exact assignInOrder_nil ⟨Z,H,I,h⟩
theorem ud{e:Expr}{es:List Expr}{t:TG}{u:TGs}(h1:PG X e t)(h2:PGs X es u)
  (hs:(assignEach (e::es) X.env).map (·.2)=assign e X.env::(assignEach es X.env).map (·.2):=by rfl):PGs X (e::es) (acn t u):=by
 intro pins s Z H vs us Q I r h
 obtain ⟨v,vr,e1,h⟩:=h;subst e1
 cases r with
 |cons r rr =>
  rw [hs];refine assignInOrder_cons (thn (h1 pins s Z H _ _ _ I r h) λ_ s1 ⟨Z1,H1,I1,q1⟩=>?_);exact h2 pins s1 Z1 H1 _ _ Q I1 rr q1
noncomputable def ww(K:PySem.W.Frag)(n:Nat)(t:TGs):TG:=λv Z H Q=>∃a xs,v=.ref a/\SqT K H a xs/\xs.length=n/\t xs Z H Q
theorem a6l(hc:X.calm=true)(h:PGs X es t)
  (hn:(assignEach es X.env).length=n:=by rfl) (hst:(assignEach es X.env).findIdx? (·.1)=none:=by rfl):PG X (.Tuple es k pos) (ww X.K n t):=by
 intro pins s Z H v u Q I r hw
 obtain ⟨a,xs,e1,hq,hl,hw⟩:=hw;subst e1;cases r
 obtain ⟨its,rv,ht,hz⟩:=I.tuple hq;refine assign_Tuple_tuple (I.ok.hd hc) ht (by simp [hn,<-hl,rv.length]) hst λh' hx=>?_
 have I1:Inv X pins Z H {s with heap:=h' }:=I.kept (t':=s.toks) λb o e=>hx b o (aV (aG e)) e
 exact h pins _ Z H xs _ Q I1 (by simpa using rv) hw
def a8h(to ti:TE)(t:ayg):TG:=λv Z H Q=>to Z H λo H1=>ti Z H1 λi H2=>t o i v H2 λH3=>Q Z H3
theorem au5{o i:Expr}{to ti:TE}{t:ayg}(ho:PE X o to)(hi:PE X i ti)(hs:azy X t)
  (ha:∀v,assign (.Subscript o i pos) X.env v=(do
   let ov <-holding [v] (eval o X.env)
   let iv <-holding [v,ov] (eval i X.env)
   standAt pos
   holding [v,ov,iv] (setItem ov iv v)
   release [v,ov,iv] []):=by intro _;rfl):PG X (.Subscript o i pos) (a8h to ti t):=by
 intro pins s Z H v u Q I r h
 rw [ha];refine af (bR (thn (ho pins s Z H _ I h) λov s1 ⟨x,H1,I1,r1,q1⟩=>?_));refine af (bR (thn (hi pins s1 Z H1 _ I1 q1) λiv s2 ⟨y,H2,I2,r2,q2⟩=>?_));refine af (de (af (bR (thn (hs pins s2 Z H2 x y v ov iv u _ I2 r1 r2 r q2) λ_ s3 ⟨H3,I3,q3⟩=>?_))));exact wpAny_release ⟨Z,H3,I3,q3⟩
def au6(te:TE)(g:TG):TS:=λD Z H=>te Z H λx H1=>g x Z H1 D.nx
theorem aop{tg e:Expr}{te:TE}{g:TG}(he:PE X e te)(hg:PG X tg g)(hs:swapsWithSole [tg] e pos.line X.env=pure false:=by rfl)(hw:swappedStores [tg] e X.env=pure none:=by rfl)
  (h1:(assignEach [tg] X.env).map (·.2)=[assign tg X.env]:=by rfl):PS X (.Assign [tg] e pos) (au6 te g):=by
 intro pins s Z H D I h
 refine wpAny_Assign_stores (thn (he pins s Z H _ I h) λv s1 ⟨x,H1,I1,r1,q1⟩=>?_) hs hw;rw [h1];exact thn (hg pins s1 Z H1 x v _ I1 r1 q1) λ_ s2 q=>q
theorem au7{i:Nat}{x:Str}{e:Expr}{te:TE}{pos':Pos}(hN:X.N.Nodup)(hi:X.N[i]? = some x)(hx:Loc X.env.scope x)(he:PE X e te)(hs:swapsWith e (some (.Name x pos')) pos.line X.env=pure false:=by rfl)(hf:X.fn x=true\/X.env.scope.names.lookup x=some .local:=by first|exact .inl rfl|exact .inr rfl|assumption) :
  PS X (.Assign [.Name x pos'] e pos) (au6 te (a1d i)):=by
 intro pins s Z H D I h
 refine wpAny_Assign_Name (thn (he pins s Z H _ I h) λv s1 ⟨y,H1,I1,r1,q1⟩=>?_) hs;exact ae5 I1 hN hi hx r1 (λs2 I2=>⟨_,H1,I2,q1⟩) hf
end
section
variable{X:Cx}{pos:Pos}
def au8(c:TT)(tb:TS):TS:=λD Z H=>∃W:Nat->St->Hp->Prop,(∃m,W m Z H)/\∀m Z H,W m Z H->
 c Z H λb H1=>if b=true then ∃N:St->Hp->Prop,(∀Z' H',N Z' H'->∃m',m'<m/\W m' Z' H')/\tb {D with nx:=N,ct:=N,bk:=D.nx} Z H1 else D.nx Z H1
theorem am3{c:Expr}{body:List Stmt}{tc:TT}{tb:TS}(hp:PassesOwn (model X.prog X.w) X.A X.env X.xe)(hc:PT X c tc)(hb:PSs X body tb):PS X (.While c body [] pos) (au8 tc tb):=by
 intro pins s Z H D I h
 obtain ⟨W,⟨m0,w0⟩,turn⟩:=h;refine wpAny_While (codeAny_whileLoop (λn s'=>∃Z' H',Inv X pins Z' H' s'/\W n Z' H') ?_ m0 ⟨Z,H,I,w0⟩)
 rintro n s1 ⟨Z1,H1,I1,w1⟩
 refine ei hp (thn (hc pins s1 Z1 H1 _ I1 (turn n Z1 H1 w1)) λb s2 ⟨H2,I2,q2⟩=>?_)
 cases b with
 |true =>
  obtain ⟨N,hN,q2⟩:=q2;rw [aE rfl];refine ei hp (thn (hb pins s2 Z1 H2 _ I2 q2) λf s3 q3=>?_)
  cases f with
  |next =>
   obtain ⟨Z3,H3,I3,n3⟩:=q3;obtain ⟨m',hm,w3⟩:=hN Z3 H3 n3;exact ⟨m',hm,Z3,H3,I3,w3⟩
  |cont =>
   obtain ⟨Z3,H3,I3,n3⟩:=q3;obtain ⟨m',hm,w3⟩:=hN Z3 H3 n3;exact ⟨m',hm,Z3,H3,I3,w3⟩
  |brk=>exact q3
  |ret v=>exact q3
 |false =>
  rw [aS aX];exact gO ⟨Z1,H2,I2,q2⟩
end
structure It where
 go:Nat->Hp->Prop
 yld:Nat->Hp->V->Hp->Prop
 stop:Nat->Hp->Prop
def FpOk(X:Cx)(pins:List (Addr×Obj))(H:Hp)(b:Addr):Prop :=
 H b=none/\b≠X.env.locals/\b∉X.fs/\(b∈X.ex\/X.s₀.heap.objs.size<=b)/\(∀x c,X.env.cells.lookup x=some c->c≠b)/\∀p∈X.pn++pins,p.1≠b
theorem Inv.fpOk(I:Inv X pins Z H s)(hb:s.heap.objs.size<=b)(hn:H' b=none):FpOk X pins H' b:=by
 refine ⟨hn,gX (aM I.lt hb),I.nofs hb,.inr (aW I.sz hb),λx c e z=>?_,λp hp z=>?_⟩
 .obtain ⟨v,q⟩:=I.cell x c e;exact absurd (aM q.lt (by rw [z];exact hb)) (bC _)
 .exact absurd (aM (aG (I.pin p hp).1) (by rw [z];exact hb)) (bC _)
structure Turn (P:Program) (w:World) (K:PySem.W.Frag) (tg:Expr) (J:It) (fp:List Addr) (it:Addr) (tn:Nat->Heap->Prop):Prop where
 mem:it∈fp
 obj:∀i h,tn i h->∀b∈fp,∃o,h.get? b=some o/\∀v,o.data≠.cell v
 keep:∀i h h',tn i h->(∀b∈fp,∀o,h.get? b=some o->h'.get? b=some o)->tn i h'
 item:∀(X:Cx),X.prog=P->X.w=w->X.K=K->X.calm=true->∀(i:Nat) (pins:List (Addr×Obj)) (s:Shared) (Z:St) (H:Hp) (E:Value->Shared->Prop),Inv X pins Z H s->(∀b∈fp,FpOk X pins H b)->tn i s.heap->J.go i H->
  wpAny (model P w) X.A (pyNext (.ref it)) (λr s1=>∃u,r=some u /\
   wpAny (model P w) X.A (letOwnedTupleGo tg (.ref it) u) (λ_ s2=>∃x H',Inv X pins Z H' s2/\RelV x u/\J.yld i H x H'/\tn (i+1) s2.heap/\∀b∈fp,H' b=none) E s1) E s
 done:∀(X:Cx),X.prog=P->X.w=w->X.K=K->X.calm=true->∀(i:Nat) (pins:List (Addr×Obj)) (s:Shared) (Z:St) (H:Hp) (E:Value->Shared->Prop),Inv X pins Z H s->(∀b∈fp,FpOk X pins H b)->tn i s.heap->J.stop i H->
  wpAny (model P w) X.A (pyNext (.ref it)) (λr s1=>r=none/\Inv X pins Z H s1) E s
 self:∀(A:Around) (i:Nat) (s:Shared) (Q:Value->Shared->Prop) (E:Value->Shared->Prop),tn i s.heap->Q (.ref it) s->wpAny (model P w) A (pyIter (.ref it)) Q E s
abbrev TI:=St->Hp->(It->Hp->Prop)->Prop
def PIE(X:Cx)(pins:List (Addr×Obj))(Z:St)(tg:Expr)(R:It->Hp->Prop)(itv:Value)(s2:Shared):Prop :=
 ∃(it:Addr) (fp:List Addr) (tn:Nat->Heap->Prop) (J:It) (H':Hp),itv=.ref it/\Inv X pins Z H' s2/\Turn X.prog X.w X.K tg J fp it tn/\tn 0 s2.heap/\(∀b∈fp,FpOk X pins H' b)/\R J H'
def PI(X:Cx)(tg iter:Expr)(wi:TI):Prop :=
 ∀(pins:List (Addr×Obj)) (s:Shared) (Z:St) (H:Hp) (R:It->Hp->Prop),Inv X pins Z H s->wi Z H R->
  wpAny (model X.prog X.w) X.A (eval iter X.env) (λv s1=>wpAny (model X.prog X.w) X.A (pyIter v) (PIE X pins Z tg R) X.xe s1) X.xe s
theorem ahr{s:Shared}(ho:s.heap.get? it=some o)(hc:o.cls=.type n)(hd:o.data=.fields vs)
  (hn:["enumerate","zip","dict_itemiterator","dict_reverseitemiterator","odict_iterator","itertools.zip_longest","itertools.pairwise"].contains n=false) (hQ:Q () s):wpAny M A (letOwnedTupleGo tg (.ref it) u) Q E s:=by
 unfold letOwnedTupleGo
 cases tg<;>first
  |exact ar hQ
  | (cases u<;>first
    |exact ar hQ
    | (refine af (wpAny_load ho ?_)
       rw [hc,hd];show wpAny M A (if (["enumerate","zip","dict_itemiterator","dict_reverseitemiterator","odict_iterator","itertools.zip_longest","itertools.pairwise"].contains n && vs[0]? == some (rawInt _))=true then _ else _) Q E s
       rw [aS (by intro h;rw [hn,Bool.false_and] at h;cases h)]
       exact ar hQ))
noncomputable def Itl(K:PySem.W.Frag)(a:Addr):It :=
 ⟨λi H=>∃xs x,SqL K H a xs/\xs[i]? = some x,λi H x H'=>H'=H/\∀xs,SqL K H a xs->xs[i]? = some x,λi H=>∃xs,SqL K H a xs/\xs.length<=i⟩
noncomputable def Itt(K:PySem.W.Frag)(a:Addr):It :=
 ⟨λi H=>∃xs x,SqT K H a xs/\xs[i]? = some x,λi H x H'=>H'=H/\∀xs,SqT K H a xs->xs[i]? = some x,λi H=>∃xs,SqT K H a xs/\xs.length<=i⟩
def Itr(lo:Int)(n:Nat):It:=⟨λi _=>i<n,λi H x H'=>H'=H/\x=.int (lo+i),λi _=>n<=i⟩
theorem ahs{P:Program}{w:World}{K:PySem.W.Frag}{tg:Expr}(a it:Addr):Turn P w K tg (Itl K a) [it] it (λi h=>h.IsListIter it a i) where
 mem:=by simp
 obj:=λi h st b hb=>by
  have e:b=it:=by simpa using hb
  subst e;obtain ⟨o,e,c,d⟩:=st;exact ⟨o,e,λv z=>by rw [d] at z;cases z⟩
 keep:=λi h h' st k=>st.at λo e=>k it (by simp) o e
 item:=by
  intro X hP hw hK hc i pins s Z H E I hf st hg
  subst hP hw hK;obtain ⟨xs,x,hq,hx⟩:=hg;obtain ⟨its,rv,p,hz⟩:=I.list hq;obtain ⟨u,hu,ru⟩:=rv.get hx;obtain ⟨f0,f1,f2,f3,f4,f5⟩:=hf it (by simp)
  refine wpAny_pyNext_list_item st p.isList (x:=u) (by simpa using hu) λh' st' sb=>?_
  have I1:Inv X pins Z H {s with heap:=h' }:=I.turned (t':=s.toks) (λb o hb e=>(sb.2 b hb).trans e) f0 f1 f3 f4 f5
  obtain ⟨o,e,c,d⟩:=id st';exact ⟨u,rfl,ahr (s:={s with heap:=h' }) e c d (by decide) ⟨x,H,I1,ru,⟨rfl,λys hy=>by rw [I.list_inj hy hq];exact hx⟩,st',λb hb=>(hf b hb).1⟩⟩
 done:=by
  intro X hP hw hK hc i pins s Z H E I hf st hg
  subst hP hw hK;obtain ⟨xs,hq,hx⟩:=hg;obtain ⟨its,rv,p,hz⟩:=I.list hq;obtain ⟨f0,f1,f2,f3,f4,f5⟩:=hf it (by simp)
  have hl:=rv.length;exact wpAny_pyNext_list_end (I.ok.hd hc) st p.isList (by simp;omega) λh' eb=>⟨rfl,I.turned (t':=s.toks) (λb o hb e=>eb b o hb e) f0 f1 f3 f4 f5⟩
 self:=λ_ _ _ _ _ st h=>wpAny_pyIter_listiter st h
theorem ag4{P:Program}{w:World}{K:PySem.W.Frag}{tg:Expr}(a it:Addr):Turn P w K tg (Itt K a) [it] it (λi h=>h.IsTupleIter it a i) where
 mem:=by simp
 obj:=λi h st b hb=>by
  have e:b=it:=by simpa using hb
  subst e;obtain ⟨o,e,c,d⟩:=st;exact ⟨o,e,λv z=>by rw [d] at z;cases z⟩
 keep:=λi h h' st k=>st.at λo e=>k it (by simp) o e
 item:=by
  intro X hP hw hK hc i pins s Z H E I hf st hg
  subst hP hw hK;obtain ⟨xs,x,hq,hx⟩:=hg;obtain ⟨its,rv,p,hz⟩:=I.tuple hq;obtain ⟨u,hu,ru⟩:=rv.get hx;obtain ⟨f0,f1,f2,f3,f4,f5⟩:=hf it (by simp)
  refine wpAny_pyNext_tuple_item st (show s.heap.IsTuple a its.toArray from p) (x:=u) (by simpa using hu) λh' st' sb=>?_
  have I1:Inv X pins Z H {s with heap:=h' }:=I.turned (t':=s.toks) (λb o hb e=>(sb.2 b hb).trans e) f0 f1 f3 f4 f5
  obtain ⟨o,e,c,d⟩:=id st';exact ⟨u,rfl,ahr (s:={s with heap:=h' }) e c d (by decide) ⟨x,H,I1,ru,⟨rfl,λys hy=>by rw [I.tuple_inj hy hq];exact hx⟩,st',λb hb=>(hf b hb).1⟩⟩
 done:=by
  intro X hP hw hK hc i pins s Z H E I hf st hg
  subst hP hw hK;obtain ⟨xs,hq,hx⟩:=hg;obtain ⟨its,rv,p,hz⟩:=I.tuple hq;obtain ⟨f0,f1,f2,f3,f4,f5⟩:=hf it (by simp)
  have hl:=rv.length;exact wpAny_pyNext_tuple_end (I.ok.hd hc) st (show s.heap.IsTuple a its.toArray from p) (by simp;omega) λh' eb=>⟨rfl,I.turned (t':=s.toks) (λb o hb e=>eb b o hb e) f0 f1 f3 f4 f5⟩
 self:=λ_ _ _ _ _ st h=>wpAny_pyIter_tupleiter st h
theorem ag5{P:Program}{w:World}{K:PySem.W.Frag}{tg:Expr}(it:Addr)(lo:Int)(n:Nat):Turn P w K tg (Itr lo n) [it] it (λi h=>IsRangeIter h it (lo+(i:Nat)*1) ((n:Int)-(i:Nat)) 1) where
 mem:=by simp
 obj:=λi h st b hb=>by
  have e:b=it:=by simpa using hb
  subst e;exact ⟨_,st,λv z=>by
   have z':Data.fields _=Data.cell v:=z
   cases z'⟩
 keep:=λi h h' st k=>k it (by simp) _ st
 item:=by
  intro X hP hw hK hc i pins s Z H E I hf st hg
  subst hP hw hK;obtain ⟨f0,f1,f2,f3,f4,f5⟩:=hf it (by simp)
  have W:=Walks.range (prog:=X.prog) (w:=X.w) (I.ok.hd hc) it lo 1 n;refine W.item i s _ _ hg st λv h' tk hv st' kk=>?_;obtain ⟨t,rfl⟩:=hv;have I1:Inv X pins Z H {s with heap:=h',toks:=tk}:=I.turned (λb o hb e=>kk b o (by simpa using hb) e) f0 f1 f3 f4 f5
  refine ⟨_,rfl,ahr (s:={s with heap:=h',toks:=tk}) (n := "range_iterator") st' rfl rfl (by decide) ⟨.int (lo+i),H,I1,⟨t,?_⟩,⟨rfl,rfl⟩,st',λb hb=>(hf b hb).1⟩⟩
  rw [Int.mul_one]
 done:=by
  intro X hP hw hK hc i pins s Z H E I hf st hg
  subst hP hw hK;obtain ⟨f0,f1,f2,f3,f4,f5⟩:=hf it (by simp)
  exact wpAny_pyNext_range_end (I.ok.hd hc) st (by have:n<=i:=hg;omega) λh' eb=>⟨rfl,I.turned (t':=s.toks) (λb o hb e=>eb b o hb e) f0 f1 f3 f4 f5⟩
 self:=λ_ _ _ _ _ st h=>fU st h
section
variable{X:Cx}{tg:Expr}
noncomputable def ayi(K:PySem.W.Frag)(tl:TE):TI:=λZ H R=>tl Z H λx H1=>∃a,x=.ref a/\(∃xs,SqL K H1 a xs)/\R (Itl K a) H1
noncomputable def b1c(K:PySem.W.Frag)(tl:TE):TI:=λZ H R=>tl Z H λx H1=>∃a,x=.ref a/\(∃xs,SqT K H1 a xs)/\R (Itt K a) H1
theorem aht{l:Expr}{tl:TE}(hl:PE X l tl):PI X tg l (ayi X.K tl):=by
 intro pins s Z H R I h
 refine thn (hl pins s Z H _ I h) ?_
 rintro v s1 ⟨x,H1,I1,r1,q1⟩
 obtain ⟨a,e,⟨xs,hq⟩,q⟩:=q1;subst e;cases r1
 obtain ⟨its,rv,p,hz⟩:=I1.list hq;refine fX p.isList ?_;refine ⟨s1.heap.objs.size,[s1.heap.objs.size],_,_,H1,rfl,I1.kept (t':=s1.toks) λb o e=>ai _ e,ahs a _,⟨_,aJ _ rfl,rfl,rfl⟩,λb hb=>?_,q⟩;have e:b=s1.heap.objs.size:=by simpa using hb
 subst e;exact I1.fpOk (aA _) (I1.hok.fresh (aA _))
theorem au9{l:Expr}{tl:TE}(hl:PE X l tl):PI X tg l (b1c X.K tl):=by
 intro pins s Z H R I h
 refine thn (hl pins s Z H _ I h) ?_
 rintro v s1 ⟨x,H1,I1,r1,q1⟩
 obtain ⟨a,e,⟨xs,hq⟩,q⟩:=q1;subst e;cases r1
 obtain ⟨its,rv,p,hz⟩:=I1.tuple hq;refine gY (show s1.heap.IsTuple a its.toArray from p) ?_
 refine ⟨s1.heap.objs.size,[s1.heap.objs.size],_,_,H1,rfl,I1.kept (t':=s1.toks) λb o e=>ai _ e,ag4 a _,⟨_,aJ _ rfl,rfl,rfl⟩,λb hb=>?_,q⟩;have e:b=s1.heap.objs.size:=by simpa using hb
 subst e;exact I1.fpOk (aA _) (I1.hok.fresh (aA _))
theorem ae6{s:Shared}{lo hi:Int}{tk:Nat}(I:Inv X pins Z H s)(h1 : -(2^62)<=lo)(h2:lo<2^62)(h3 : -(2^62)<=hi)(h4:hi<2^62)
  (q:R (Itr lo (hi-lo).toNat) H):wpAny (model X.prog X.w) X.A (pyIter (.ref s.heap.objs.size)) (PIE X pins Z tg R) E {s with heap:=s.heap.push {cls:=.type "range",data:=.fields #[.int lo t,.int hi u,.int 1 v]},toks:=tk}:=by
 refine wpAny_pyIter_range (IsRange.new ..) (small_one h1 h2 h3 h4) ?_;have I1:Inv X pins Z H {s with heap:=s.heap.push {cls:=.type "range",data:=.fields #[.int lo t,.int hi u,.int 1 v]},toks:=tk}:=I.kept λb o e=>ai _ e
 refine ⟨(s.heap.push {cls:=.type "range",data:=.fields #[.int lo t,.int hi u,.int 1 v]}).objs.size,[(s.heap.push {cls:=.type "range",data:=.fields #[.int lo t,.int hi u,.int 1 v]}).objs.size],_,_,H,rfl,
  I1.kept (t':=tk) λb o e=>ai _ e,ag5 _ lo (hi-lo).toNat,?_,λb hb=>?_,q⟩
 .have e1:lo+((0:Nat):Int)*1=lo:=by simp
  have e2:(((hi-lo).toNat:Nat):Int)-((0:Nat):Int)=Builtin.Range.rangeSize lo hi 1:=by rw [rangeSize_one];split<;>omega
  show IsRangeIter _ _ (lo+((0:Nat):Int)*1) ((((hi-lo).toNat:Nat):Int)-((0:Nat):Int)) 1;rw [e1,e2];exact aJ _ rfl
 .have e:b=(s.heap.push {cls:=.type "range",data:=.fields #[.int lo t,.int hi u,.int 1 v]}).objs.size:=by simpa using hb
  subst e;exact I1.fpOk (aA _) (I1.hok.fresh (aA _))
noncomputable def ayj(ta:TA):TI:=λZ H R=>ta Z H λvs H1=>∃j:Int,vs=[.int j] /\ -(2^62)<=j/\j<2^62/\R (Itr 0 j.toNat) H1
noncomputable def ayk(ta:TA):TI:=λZ H R=>ta Z H λvs H1=>∃i j:Int,vs=[.int i,.int j]/\(-(2^62)<=i/\i<2^62 /\ -(2^62)<=j/\j<2^62)/\R (Itr i (j-i).toNat) H1
theorem ahu{a:Expr}{ta:TA}{p pos:Pos}(hg:Gl X "range")(hm:X.mg "range" = none)(ha:PA X [a] ta)(hs:starEach [a] X.env=[(false,eval a X.env)]:=by rfl):PI X tg (.Call (.Name "range" p) [a] [] pos) (ayj ta):=by
 intro pins s Z H R I h
 refine Call_ (a2z I hg hm boot_range (bO (thn (ha pos pins s Z H _ I h) λus s1 ⟨vs,H1,I1,r1,q1⟩=>?_) hs rfl));obtain ⟨j,e,q1,q2,q⟩:=q1;subst e
 cases r1 with
 |cons r rr =>
  cases rr
  obtain ⟨t,rfl⟩:=r;exact call_range_1 (ae6 I1 (by omega) (by omega) q1 q2 (by simpa using q))
theorem ahv{a b:Expr}{ta:TA}{p pos:Pos}(hg:Gl X "range")(hm:X.mg "range" = none)(ha:PA X [a,b] ta)(hs:starEach [a,b] X.env=[(false,eval a X.env),(false,eval b X.env)]:=by rfl)(hs2:starEach [b] X.env=[(false,eval b X.env)]:=by rfl) :
  PI X tg (.Call (.Name "range" p) [a,b] [] pos) (ayk ta):=by
 intro pins s Z H R I h
 refine Call_ (a2z I hg hm boot_range (bO (thn (ha pos pins s Z H _ I h) λus s1 ⟨vs,H1,I1,r1,q1⟩=>?_) (by rw [hs,hs2]) (by rw [hs2];rfl)))
 obtain ⟨i,j,e,⟨q1,q2,q3,q4⟩,q⟩:=q1;subst e
 cases r1 with
 |cons r rr =>
  cases rr with
  |cons r' rr =>
   cases rr
   obtain ⟨t,rfl⟩:=r;obtain ⟨t',rfl⟩:=r';exact call_range_2 (ae6 I1 q1 q2 q3 q4 q)
def b1d(wi:TI)(g:TG)(tb:TS):TS:=λD Z H=>wi Z H λJ H1=>∃W:Nat->Nat->St->Hp->Prop,(∃m,W 0 m Z H1)/\∀i m Z H,W i m Z H->
 (J.stop i H/\D.nx Z H)\/(J.go i H/\∃N:St->Hp->Prop,(∀Z' H',N Z' H'->∃m',m'<m/\W (i+1) m' Z' H')/\∀x H',J.yld i H x H'->g x Z H' λZ2 H2=>tb {D with nx:=N,ct:=N,bk:=D.nx} Z2 H2)
def xx(fp:List Addr)(h:Heap):List (Addr×Obj):=fp.filterMap λb=>(h.get? b).map λo=>(b,o)
theorem oh{h:Heap}(hb:b∈fp)(e:h.get? b=some o):(b,o)∈xx fp h:=gZ.mpr ⟨b,hb,by rw [e];rfl⟩
theorem aau(hp:p∈xx fp h):p.1∈fp/\h.get? p.1=some p.2:=by
 obtain ⟨b,hb,e⟩:=gZ.mp hp
 cases q:h.get? b with
 |none=>rw [q] at e;cases e
 |some o =>
  rw [q] at e;have e':(b,o)=p:=bK e;subst e';exact ⟨hb,q⟩
theorem Inv.pinned(I:Inv X pins Z H s)(hf:∀b∈fp,FpOk X pins H b)(ho:∀b∈fp,∃o,s.heap.get? b=some o/\∀v,o.data≠.cell v):Inv X (pins++xx fp s.heap) Z H s :=
 I.pins_of λp hp=>(aZ.mp hp).elim (λz=>I.pin p (aR _ z)) λz=>by
  obtain ⟨hb,e⟩:=aau z;obtain ⟨f0,f1,f2,_⟩:=hf p.1 hb;obtain ⟨o,e',d⟩:=ho p.1 hb;rw [e] at e';cases e'
  exact ⟨e,f0,f1,f2,d⟩
theorem Inv.unpinned(I:Inv X (pins++pl) Z H s):Inv X pins Z H s:=I.pins_of λp hp=>I.pin p (aR _ (dn _ hp))
theorem aua{iter:Expr}{body:List Stmt}{wi:TI}{g:TG}{tb:TS}{pos:Pos}(hp:PassesOwn (model X.prog X.w) X.A X.env X.xe)(hc:X.calm=true)(hi:PI X tg iter wi)(hg:PG X tg g)(hb:PSs X body tb)
  (hs:∀x,foldedSetIterable iter X.env x=pure x:=by intro _;rfl):PS X (.For tg iter body [] pos) (b1d wi g tb):=by
 intro pins s Z H D I h
 refine wpAny_For (thn (hi pins s Z H _ I h) λv s1 h1=>thn h1 λitv s2 h2=>?_) hs;obtain ⟨it,fp,tn,J,H2,e,I2,T,st2,f2,W,⟨m0,w0⟩,turn⟩:=h2;subst e;have stat:∀{H':Hp},(∀b∈fp,H' b=none)->∀b∈fp,FpOk X pins H' b:=λhn b hb=>⟨hn b hb,(f2 b hb).2⟩;refine codeAny_forLoop_any (λn s'=>∃i Z' H',Inv X pins Z' H' s'/\tn i s'.heap/\(∀b∈fp,H' b=none)/\W i n Z' H') ?_ m0 ⟨0,Z,H2,I2,st2,λb hb=>(f2 b hb).1,w0⟩
 rintro n s3 ⟨i,Z3,H3,I3,st3,fr3,w3⟩
 rcases turn i n Z3 H3 w3 with ⟨stop,qn⟩|⟨go,N,hN,step⟩
 .refine ei hp (thn (T.done X rfl rfl rfl hc i pins s3 Z3 H3 X.xe I3 (stat fr3) st3 stop) λr s4 ⟨hr,I4⟩=>?_);subst hr;exact gO ⟨Z3,H3,I4,qn⟩
 .refine ei hp (thn (T.item X rfl rfl rfl hc i pins s3 Z3 H3 X.xe I3 (stat fr3) st3 go) λr s4 ⟨u,hr,h4⟩=>?_);subst hr;refine ei hp (thn h4 λ_ s5 ⟨x,H5,I5,r5,y5,st5,fr5⟩=>?_);have I5':=I5.pinned (stat fr5) (T.obj _ _ st5);refine ei hp (thn (hg _ s5 Z3 H5 x u _ I5' r5 (step x H5 y5)) λ_ s6 ⟨Z6,H6,I6,q6⟩=>?_);refine ei hp (thn (hb _ s6 Z6 H6 _ I6 q6) λf s7 q7=>?_);have again:∀{Z7:St} {H7:Hp},Inv X (pins++xx fp s5.heap) Z7 H7 s7->N Z7 H7->∃m,m<n/\∃i Z' H',Inv X pins Z' H' s7/\tn i s7.heap/\(∀b∈fp,H' b=none)/\W i m Z' H':=λ{Z7 H7} I7 n7=>by
   obtain ⟨m',hm,w7⟩:=hN Z7 H7 n7;refine ⟨m',hm,i+1,Z7,H7,I7.unpinned,T.keep _ _ _ st5 λb hb o e=>(I7.pin (b,o) (aR _ (aR _ (oh hb e)))).1,λb hb=>?_,w7⟩;obtain ⟨o,e,d⟩:=T.obj _ _ st5 b hb;exact (I7.pin (b,o) (aR _ (aR _ (oh hb e)))).2.1
  cases f with
  |next=>obtain ⟨Z7,H7,I7,n7⟩:=q7;exact again I7 n7
  |cont=>obtain ⟨Z7,H7,I7,n7⟩:=q7;exact again I7 n7
  |brk=>obtain ⟨Z7,H7,I7,q7⟩:=q7;exact ⟨Z7,H7,I7.unpinned,q7⟩
  |ret v=>obtain ⟨x7,Z7,H7,I7,r7,q7⟩:=q7;exact ⟨x7,Z7,H7,I7.unpinned,r7,q7⟩
end
abbrev R2:=V->V->Hp->VK->Prop
def OpR(X:Cx)(f:Value->Value->Sem Value)(r:R2):Prop :=
 ∀(pins:List (Addr×Obj)) (s:Shared) (Z:St) (H:Hp) (x y:V) (v u:Value) (Q:VK),Inv X pins Z H s->RelV x v->RelV y u->r x y H Q->
  wpAny (model X.prog X.w) X.A (f v u) (EP X pins Z Q) X.xe s
def UnR(X:Cx)(f:Value->Sem Value)(r:V->Hp->VK->Prop):Prop :=
 ∀(pins:List (Addr×Obj)) (s:Shared) (Z:St) (H:Hp) (x:V) (v:Value) (Q:VK),Inv X pins Z H s->RelV x v->r x H Q->
  wpAny (model X.prog X.w) X.A (f v) (EP X pins Z Q) X.xe s
def CallR(X:Cx)(f:Value)(r:List V->Hp->VK->Prop):Prop :=
 ∀(pins:List (Addr×Obj)) (s:Shared) (Z:St) (H:Hp) (xs:List V) (us:List Value) (Q:VK),Inv X pins Z H s->Vals xs us->r xs H Q->
  wpAny (model X.prog X.w) X.A (call f us) (EP X pins Z Q) X.xe s
def b1e(X:Cx)(r:V->Hp->(Bool->Hp->Prop)->Prop):Prop :=
 ∀(pins:List (Addr×Obj)) (s:Shared) (Z:St) (H:Hp) (x:V) (v:Value) (Q:Bool->Hp->Prop),Inv X pins Z H s->RelV x v->r x H Q->
  wpAny (model X.prog X.w) X.A (truthy v) (TP X pins Z Q) X.xe s
def tOp(r:R2)(ta tb:TE):TE:=λZ H Q=>ta Z H λx H1=>tb Z H1 λy H2=>r x y H2 Q
def tUn(r:V->Hp->VK->Prop)(ta:TE):TE:=λZ H Q=>ta Z H λx H1=>r x H1 Q
def rI(C:Int->Int->Prop)(g:Int->Int->V):R2:=λx y H Q=>∃i j,x=.int i/\y=.int j/\C i j/\Q (g i j) H
def rI0(g:Int->Int->V):R2:=λx y H Q=>∃i j,x=.int i/\y=.int j/\Q (g i j) H
def rU(g:Int->V):V->Hp->VK->Prop:=λx H Q=>∃i,x=.int i/\Q (g i) H
section
variable{X:Cx}{a b c:Expr}{ta tb tc:TE}{pos:Pos}
theorem ayl(ha:PE X a ta)(hb:PE X b tb){pins:List (Addr×Obj)}{s:Shared}{Z:St}{H:Hp}{R:V->V->Hp->Prop}(I:Inv X pins Z H s)
  (h:ta Z H λx H1=>tb Z H1 λy H2=>R x y H2) {Q:Value->Shared->Prop} {f:Value->Value->Sem Value}
  (hf:∀v u s2 x y H2,Inv X pins Z H2 s2->RelV x v->RelV y u->R x y H2->wpAny (model X.prog X.w) X.A (f v u) Q X.xe s2) :
  wpAny (model X.prog X.w) X.A (eval a X.env) (λv s₁=>wpAny (model X.prog X.w) X.A (eval b X.env) (λu s₂=>wpAny (model X.prog X.w) X.A (f v u) Q X.xe s₂) X.xe s₁) X.xe s:=by
 refine thn (ha pins s Z H _ I h) ?_
 rintro v s1 ⟨x,H1,I1,r1,q1⟩
 refine thn (hb pins s1 Z H1 _ I1 q1) ?_
 rintro u s2 ⟨y,H2,I2,r2,q2⟩
 exact hf v u s2 x y H2 I2 r1 r2 q2
theorem aub{op:Operator}{r:R2}(ho:OpR X (binaryOp op) r)(ha:PE X a ta)(hb:PE X b tb):PE X (.BinOp a op b pos) (tOp r ta tb):=by
 intro pins s Z H Q I h
 exact wpAny_BinOp (ayl ha hb I h λv u s2 x y H2 I2 rx ry q=>ho pins s2 Z H2 x y v u Q I2 rx ry q)
theorem aym{op:UnaryOp}{r:V->Hp->VK->Prop}(ho:UnR X (unaryOp op) r)(ha:PE X a ta):PE X (.UnaryOp op a pos) (tUn r ta):=by
 intro pins s Z H Q I h
 exact UnaryOp_ (thn (ha pins s Z H _ I h) λv s1 ⟨x,H1,I1,r1,q1⟩=>ho pins s1 Z H1 x v Q I1 r1 q1)
theorem opI{f:Value->Value->Sem Value}{C:Int->Int->Prop}{g:Int->Int->Int}
  (rule:∀(i j:Int) (t u:Tok) (s:Shared) (Q:Value->Shared->Prop) (E:Value->Shared->Prop),C i j->Q (.int (g i j) s.toks) {s with toks:=s.toks+1}->wpAny (model X.prog X.w) X.A (f (.int i t) (.int j u)) Q E s) :
  OpR X f (rI C λi j=>.int (g i j)):=by
 intro pins s Z H x y v u Q I rx ry h
 obtain ⟨i,j,rfl,rfl,hc,q⟩:=h;obtain ⟨t,rfl⟩:=rx;obtain ⟨t',rfl⟩:=ry;exact rule i j t t' s _ _ hc ⟨.int (g i j),H,I.tok _,⟨_,rfl⟩,q⟩
theorem azz{f:Value->Value->Sem Value}{g:Int->Int->Int}
  (rule:∀(i j:Int) (t u:Tok) (s:Shared) (Q:Value->Shared->Prop) (E:Value->Shared->Prop),Q (.int (g i j) s.toks) {s with toks:=s.toks+1}->wpAny (model X.prog X.w) X.A (f (.int i t) (.int j u)) Q E s) :
  OpR X f (rI0 λi j=>.int (g i j)):=by
 intro pins s Z H x y v u Q I rx ry h
 obtain ⟨i,j,rfl,rfl,q⟩:=h;obtain ⟨t,rfl⟩:=rx;obtain ⟨t',rfl⟩:=ry;exact rule i j t t' s _ _ ⟨.int (g i j),H,I.tok _,⟨_,rfl⟩,q⟩
theorem axs{f:Value->Value->Sem Value}{g:Int->Int->Bool}
  (rule:∀(i j:Int) (t u:Tok) (s:Shared) (Q:Value->Shared->Prop) (E:Value->Shared->Prop),Q (.bool (g i j)) s->wpAny (model X.prog X.w) X.A (f (.int i t) (.int j u)) Q E s) :
  OpR X f (rI0 λi j=>.bl (g i j)):=by
 intro pins s Z H x y v u Q I rx ry h
 obtain ⟨i,j,rfl,rfl,q⟩:=h;obtain ⟨t,rfl⟩:=rx;obtain ⟨t',rfl⟩:=ry;exact rule i j t t' s _ _ ⟨.bl (g i j),H,I,rfl,q⟩
def b00(i j:Int):Prop:=0<j/\j<1073741824
def b01(i j:Int):Prop:=0<=j/\j<=1000000/\i.natAbs<2^64
def CMul(i j:Int):Prop:=(-(2^64)<i/\i<2^64)\/(-(2^64)<j/\j<2^64)
theorem CMul.ok(h:CMul i j):IntMulOk i j:=by
 rcases h with ⟨h1,h2⟩|⟨h1,h2⟩
 .exact .of_left (intBits_le_64 h1 h2)
 .exact .of_right (intBits_le_64 h1 h2)
theorem auc:OpR X (binaryOp .Add) (rI0 λi j=>.int (i+j)):=azz λ_ _ _ _ _ _ _ q=>add_int q
theorem aud:OpR X (binaryOp .Sub) (rI0 λi j=>.int (i-j)):=azz λ_ _ _ _ _ _ _ q=>sub_int q
theorem aue:OpR X (binaryOp .Mult) (rI CMul λi j=>.int (i*j)):=opI λ_ _ _ _ _ _ _ hc q=>mul_int q hc.ok
theorem aq6:OpR X (binaryOp .FloorDiv) (rI b00 λi j=>.int (i / j)):=opI λi j _ _ _ _ _ hc q=>by
 have h1:(0:Int)<j:=hc.1;have h2:j<1073741824:=hc.2;exact floordiv_int (by omega) (by rw [Int.fdiv_eq_ediv_of_nonneg i (by omega)];exact q) (.inl (PyProof.noPylong_small (by omega)))
theorem auf:OpR X (binaryOp .Mod) (rI (λ_ j=>0<j) λi j=>.int (i%j)):=opI λi j _ _ _ _ _ hc q=>by
 have h1:(0:Int)<j:=hc;exact mod_int' (by omega) (by rw [Int.fmod_eq_emod_of_nonneg i (by omega)];exact q)
theorem auh:OpR X (binaryOp .Pow) (rI b01 λi j=>.int (i^j.toNat)):=opI λ_ _ _ _ _ _ _ hc q=>pow_int_small hc.1 hc.2.1 hc.2.2 q
theorem unI{f:Value->Sem Value}{g:Int->Int}
  (rule:∀(i:Int) (t:Tok) (s:Shared) (Q:Value->Shared->Prop) (E:Value->Shared->Prop),Q (.int (g i) s.toks) {s with toks:=s.toks+1}->wpAny (model X.prog X.w) X.A (f (.int i t)) Q E s) :
  UnR X f (rU λi=>.int (g i)):=by
 intro pins s Z H x v Q I rx h
 obtain ⟨i,rfl,q⟩:=h;obtain ⟨t,rfl⟩:=rx;exact rule i t s _ _ ⟨.int (g i),H,I.tok _,⟨_,rfl⟩,q⟩
theorem aui:UnR X (unaryOp .USub) (rU λi=>.int (-i)):=unI λ_ _ _ _ _ q=>neg_int q
end
section
variable{X:Cx}{a b c:Expr}{ta tb tc:TE}{pos:Pos}
theorem a5p(I:Inv X pins Z H s)(q:Q (.bl k) H)(e:k=k'):EP X pins Z Q (.bool k') s:=by
 subst e;exact ⟨.bl k,H,I,rfl,q⟩
theorem a89:OpR X (compareOp .Lt) (rI0 λi j=>.bl (decide (i<j))):=axs λ_ _ _ _ _ _ _ q=>lt_int q
theorem aq7:OpR X (compareOp .LtE) (rI0 λi j=>.bl (decide (i<=j))):=axs λ_ _ _ _ _ _ _ q=>le_int q
theorem ahw:OpR X (compareOp .Gt) (rI0 λi j=>.bl (decide (j<i))):=axs λ_ _ _ _ _ _ _ q=>gt_int q
theorem aq8:OpR X (compareOp .GtE) (rI0 λi j=>.bl (decide (j<=i))):=axs λ_ _ _ _ _ _ _ q=>ge_int q
theorem uy:OpR X (compareOp .Lt) (λx y H Q=>∃i j,x=.str i/\y=.str j/\Q (.bl (decide (i.cps.toList<j.cps.toList))) H):=by
 intro pins s Z H x y v u Q I rx ry h
 obtain ⟨i,j,rfl,rfl,q⟩:=h;obtain ⟨t,rfl⟩:=rx;obtain ⟨t',rfl⟩:=ry;exact lt_str (a5p I q rfl)
theorem ahx:OpR X (compareOp .In) (λx y H Q=>∃i j,x=.str i/\y=.str j/\Q (.bl (!(Builtin.Str.occurrences j i 0 j.length 1).isEmpty)) H):=by
 intro pins s Z H x y v u Q I rx ry h
 obtain ⟨i,j,rfl,rfl,q⟩:=h;obtain ⟨t,rfl⟩:=rx;obtain ⟨t',rfl⟩:=ry;exact in_str (a5p I q rfl)
theorem ahy:OpR X (compareOp .Is) (λx y H Q=>y=.non/\Q (.bl (decide (x=.non))) H):=by
 intro pins s Z H x y v u Q I rx ry h
 obtain ⟨rfl,q⟩:=h;cases ry
 refine is_none_gen (a5p I q ?_)
 cases x<;>first
  |(cases rx;rfl)
  |(obtain ⟨t,rfl⟩:=rx;rfl)
theorem aq9:OpR X (compareOp .IsNot) (λx y H Q=>y=.non/\Q (.bl (!decide (x=.non))) H):=by
 intro pins s Z H x y v u Q I rx ry h
 obtain ⟨rfl,q⟩:=h;cases ry
 refine isnot_none_gen (a5p I q ?_)
 cases x<;>first
  |(cases rx;rfl)
  |(obtain ⟨t,rfl⟩:=rx;rfl)
theorem aav:OpR X (compareOp .NotIn) (λx y H Q=>∃i j,x=.str i/\y=.str j/\Q (.bl (!(!(Builtin.Str.occurrences j i 0 j.length 1).isEmpty))) H):=by
 intro pins s Z H x y v u Q I rx ry h
 obtain ⟨i,j,rfl,rfl,q⟩:=h;obtain ⟨t,rfl⟩:=rx;obtain ⟨t',rfl⟩:=ry;exact notIn_str (a5p I q rfl)
theorem OpR.or(h:OpR X f r)(h':OpR X f r'):OpR X f (λx y H Q=>r x y H Q\/r' x y H Q):=by
 intro pins s Z H x y v u Q I rx ry q
 rcases q with q|q
 .exact h pins s Z H x y v u Q I rx ry q
 .exact h' pins s Z H x y v u Q I rx ry q
theorem a6m(b:Expr)(h:op≠.In:=by decide)(h2:op≠.NotIn:=by decide):behindInMarks op b=false:=by
 have e1:(op == CmpOp.In)=false:=by cases op<;>first|rfl|exact absurd rfl h
 have e2:(op == CmpOp.NotIn)=false:=by cases op<;>first|rfl|exact absurd rfl h2
 cases b<;>simp [behindInMarks,e1,e2]
theorem aqa(ho:OpR X (compareOp op) r)(ha:PE X a ta)(hb:PE X b tb)(hm:behindInMarks op b=false):PE X (.Compare a [op] [b] pos) (tOp r ta tb):=by
 intro pins s Z H Q I h
 exact wpAny_Compare1 (ayl ha hb I h λv u s2 x y H2 I2 rx ry q=>ho pins s2 Z H2 x y v u Q I2 rx ry q) hm
def aqb(t:TE):TT:=λZ H Q=>t Z H λx H'=>∃k,x=.bl k/\Q k H'
theorem aqc{op:CmpOp}{r:R2}(ho:OpR X (compareOp op) r)(ha:PE X a ta)(hb:PE X b tb)(hm:behindInMarks op b=false):PT X (.Compare a [op] [b] pos) (aqb (tOp r ta tb)):=by
 intro pins s Z H Q I h
 refine wpAny_isTrue_Compare1 (thn (ha pins s Z H _ I h) λv s1 ⟨x,H1,I1,r1,q1⟩=>thn (hb pins s1 Z H1 _ I1 q1) λu s2 ⟨y,H2,I2,r2,q2⟩ =>
  thn (ho pins s2 Z H2 x y v u _ I2 r1 r2 q2) λc s3 ⟨z,H3,I3,r3,k,e,q3⟩=>?_) hm
 subst e;cases r3
 exact eh ⟨H3,I3,q3⟩
noncomputable def aoq(r r':R2)(ta tb tc:TE):TE:=λZ H Q=>ta Z H λx H1=>tb Z H1 λy H2=>r x y H2 λz H3=>∃k,z=.bl k /\
 (if k=true then tc Z H3 λw' H4=>r' y w' H4 Q else Q (.bl false) H3)
theorem am4{op op':CmpOp}{r r':R2}(ho:OpR X (compareOp op) r)(ho':OpR X (compareOp op') r')(ha:PE X a ta)(hb:PE X b tb)(hc:PE X c tc)
  (hm:lastMarks [op,op'] [b,c]=false:=by with_unfolding_all rfl):PT X (.Compare a [op,op'] [b,c] pos) (aqb (aoq r r' ta tb tc)):=by
 intro pins s Z H Q I h
 refine isTrue_chain (thn (ha pins s Z H _ I h) λv s1 ⟨x,H1,I1,r1,q1⟩=>test_link (thn (hb pins s1 Z H1 _ I1 q1) λu s2 ⟨y,H2,I2,r2,q2⟩ =>
  thn (ho pins s2 Z H2 x y v u _ I2 r1 r2 q2) λd s3 ⟨z,H3,I3,r3,k,e,q3⟩=>?_)) hm
 subst e;cases r3
 refine eh ?_
 cases k with
 |false =>
  obtain ⟨k',e',q'⟩:=q3
  cases e'
  exact ite_ff ⟨H3,I3,q'⟩
 |true =>
  refine ite_tt (test_last (thn (hc pins s3 Z H3 _ I3 q3) λw' s4 ⟨z',H4,I4,r4,q4⟩=>thn (ho' pins s4 Z H4 y z' u w' _ I4 r2 r4 q4) λd' s5 ⟨z2,H5,I5,r5,k2,e2,q5⟩=>?_));subst e2;cases r5
  exact eh ⟨H5,I5,q5⟩
def ayn(K:PySem.W.Frag)(x:V)(H:Hp)(k:Bool):Prop :=
 match x with
 |.non=>k=false
 |.bl b=>k=b
 |.int i=>k=(i != 0)
 |.str y=>y.length<=sizeLine/\k=((y.length:Int) != 0)
 |.byt y=>y.size<=sizeLine/\k=((y.size:Int) != 0)
 |.ref p=>(∃xs,SqL K H p xs/\k = !xs.isEmpty)\/(∃xs,SqT K H p xs/\k = !xs.isEmpty)\/∃kvs,H p=some (.dK kvs)/\k = !kvs.isEmpty
 |_=>False
theorem ag6{κ:Type}{kvs:List (κ×V)}{vs:List (κ×Value)}(r:KV kvs vs):(!vs.isEmpty) = !kvs.isEmpty:=by
 cases r<;>rfl
theorem a8i(r:Vals xs its):(!its.toArray.isEmpty) = !xs.isEmpty:=by
 cases r<;>simp
theorem a6n:(sizeLine:Nat)<2^63:=by rw [fB];decide
theorem auj:b1e X (λx H Q=>∃k,ayn X.K x H k/\Q k H):=by
 intro pins s Z H x v Q I rx h
 obtain ⟨k,e,q⟩:=h;have hl:=a6n;have hs:sizeLine=16777216:=fB
 cases x with
 |non =>
  cases rx
  have e':k=false:=e;subst e';exact truthy_none ⟨H,I,q⟩
 |bl b =>
  cases rx
  have e':k=b:=e;subst e';exact eh ⟨H,I,q⟩
 |int i =>
  obtain ⟨t,rfl⟩:=rx;have e':k=(i != 0):=e;subst e';exact PySem.P.truthy_int ⟨H,I,q⟩
 |str y =>
  obtain ⟨t,rfl⟩:=rx;obtain ⟨hy,e'⟩:y.length<=sizeLine/\k=((y.length:Int) != 0):=e;subst e';exact PySem.P.truthy_str (by omega) ⟨H,I.tok _,q⟩
 |byt y =>
  obtain ⟨t,rfl⟩:=rx;obtain ⟨hy,e'⟩:y.size<=sizeLine/\k=((y.size:Int) != 0):=e;subst e';exact PySem.W.truthy_bytes (by omega) ⟨H,I.tok _,q⟩
 |ref p =>
  cases rx
  have e':(∃xs,SqL X.K H p xs/\k = !xs.isEmpty)\/(∃xs,SqT X.K H p xs/\k = !xs.isEmpty)\/∃kvs,H p=some (.dK kvs)/\k = !kvs.isEmpty:=e
  rcases e' with ⟨xs,hx,e'⟩|⟨xs,hx,e'⟩|⟨kvs,hx,e'⟩
  .subst e';obtain ⟨its,r,pl,hz⟩:=I.list hx;have hlen:=r.length;exact wpAny_truthy_list pl.isList (by simp only [aL];omega) ⟨H,I.tok _,by rw [a8i r];exact q⟩
  .subst e';obtain ⟨its,r,pl,hz⟩:=I.tuple hx;have hlen:=r.length;exact truthy_tuple pl (by simp only [aL];omega) ⟨H,I.tok _,by rw [a8i r];exact q⟩
  .subst e';obtain ⟨hz,hS,vs,r,m⟩:kvs.length<=sizeLine/\(p == sysModules)=false/\∃vs,KV kvs vs/\s.heap.DictOf (a6k X.prog X.w) p vs:=I.hok p _ hx;have hlen:kvs.length=vs.length:=Paired.length r;exact wpAny_truthy_dict hS m (by omega) ⟨H,I.tok _,by rw [ag6 r];exact q⟩
 |_=>exact (show False from e).elim
theorem am5(ha:PE X a ta)(he:∀whole,isTrue a X.env whole=(do let v <-whole;standAt a.pos;holding [v] (truthy v))) :
  PT X a (λZ H Q=>ta Z H λx H'=>∃k,ayn X.K x H' k/\Q k H'):=by
 intro pins s Z H Q I h
 exact isTrue_plain (thn (ha pins s Z H _ I h) λv s1 ⟨x,H1,I1,r1,q1⟩=>auj pins s1 Z H1 x v Q I1 r1 q1) (he _)
theorem ag7:OpR X (binaryOp .Add) (λx y H Q=>∃i j,x=.str i/\y=.str j/\i.length+j.length<=sizeLine/\Q (.str (i++j)) H):=by
 intro pins s Z H x y v u Q I rx ry h
 obtain ⟨i,j,rfl,rfl,hz,q⟩:=h;obtain ⟨t,rfl⟩:=rx;obtain ⟨t',rfl⟩:=ry;exact add_str (λt' tk=>⟨.str (i++j),H,I.tok _,⟨_,rfl⟩,q⟩) hz
theorem vals1(r:Vals [x] us):∃u,us=[u]/\RelV x u:=by
 cases r with
 |cons r1 r2=>cases r2;exact ⟨_,rfl,r1⟩
theorem vals2(r:Vals [x,y] us):∃u w',us=[u,w']/\RelV x u/\RelV y w':=by
 cases r with
 |cons r1 r2 =>
  cases r2 with
  |cons r3 r4=>cases r4;exact ⟨_,_,rfl,r1,r3⟩
theorem ae7:CallR X (.builtin "abs") (λxs H Q=>∃i,xs=[.int i]/\Q (.int (if i<0 then -i else i)) H):=by
 intro pins s Z H xs us Q I r h
 obtain ⟨i,rfl,q⟩:=h;obtain ⟨u,rfl,t,rfl⟩:=vals1 r;exact call_abs_int λu tk=>⟨.int (if i<0 then -i else i),H,I.tok _,⟨_,rfl⟩,q⟩
theorem ahz(hc:X.calm=true):CallR X (.builtin "min") (λxs H Q=>∃i j,xs=[.int i,.int j]/\Q (.int (if j<i then j else i)) H):=by
 intro pins s Z H xs us Q I r h
 obtain ⟨i,j,rfl,q⟩:=h;obtain ⟨u,w',rfl,⟨t,rfl⟩,⟨t',rfl⟩⟩:=vals2 r;refine min_two_ints (I.ok.hd hc) λh' tk k=>⟨_,H,I.kept k,?_,q⟩
 by_cases hj:j<i
 .rw [aE hj,aE hj];exact ⟨_,rfl⟩
 .rw [aS hj,aS hj];exact ⟨_,rfl⟩
theorem a6o:CallR X (.type "int") (λxs H Q=>(∃i,xs=[.int i]/\Q (.int i) H)\/∃k,xs=[.bl k]/\Q (.int (if k then 1 else 0)) H):=by
 intro pins s Z H xs us Q I r h
 rcases h with ⟨i,rfl,q⟩|⟨k,rfl,q⟩
 .obtain ⟨u,rfl,t,rfl⟩:=vals1 r;exact call_int_int ⟨.int i,H,I,⟨_,rfl⟩,q⟩
 .obtain ⟨u,rfl,r1⟩:=vals1 r;cases r1
  exact call_int_bool ⟨.int (if k then 1 else 0),H,I.tok _,⟨_,rfl⟩,q⟩
end
structure ObjM (h:Heap) (x dx C:Addr) (mA:Str->Option Value):Prop where
 obj:h.get? x=some (PySem.W.instObj C dx)
 ns:h.Ns1 dx mA
 ne:dx≠x
theorem ai0{h:Heap}(n:h.Ns1 dx mA):∃od,h.get? dx=some od/\∀name,PySem.W.lookIn name od=some (mA name):=by
 obtain ⟨o,es,ep,ho,hd,hk,_,hm⟩:=n;refine ⟨o,ho,λname=>?_⟩;have e:=hm name;unfold nsFind findBy at e;rw [<-Array.find?_toList] at e;unfold PySem.W.lookIn;rw [hd];dsimp only
 split
 .rename_i y q;rw [q] at e;exact ah some e
 .rename_i q;rw [q] at e;have a:es.toList.any (·.refKey)=false:=by
   rw [List.any_eq_false]
   intro y hy
   obtain ⟨z,t,hkey⟩:=hk y (Array.mem_toList_iff.mp hy);simp [DictEntry.refKey,hkey]
  have a':¬ es.toList.any (·.refKey)=true:=by rw [a];exact aX
  rw [aS a'];exact ah some e
theorem ObjM.look(I:ObjM h x dx C mA):∃od,PySem.W.InstAt h x (PySem.W.instObj C dx) C (some od)/\∀name,PySem.W.lookIn name od=some (mA name) :=
 let ⟨od,ho,hl⟩:=ai0 I.ns
 ⟨od,⟨I.obj,rfl,rfl,ho⟩,hl⟩
section
variable{P:Program}{w:World}{H H':Hp}{h h':Heap}{a C dx:Addr}{fs fs':List (Str×V)}
theorem aqd(hok:HOk P w H h)(e:H a=some (.ins C dx fs)):∃mA,ObjM h a dx C mA/\(∀f,RelO (fs.lookup f) (mA f))/\PySem.Within mA (fs.map (·.1))/\fs.length<=1000/\H dx=some (.own a):=by
 obtain ⟨d,z,ne,ob,mA,n,r,q⟩:=(show ObjOk P w H h a (.ins C dx fs) from hok a _ e)
 exact ⟨mA,⟨ob,n,ne⟩,r,q,z,d⟩
end
structure Cls (K:PySem.W.Frag) (C:Addr):Prop where
 pg:PySem.W.plainGet K C Str.empty=true
 hd:PySem.W.hasDictIn K C=true
 po:PySem.W.plainOver K C=true
 sa:PySem.W.findIn K (.ref C) "__setattr__" = some (some (.builtin "object.__setattr__"))
theorem Cls.get{K:PySem.W.Frag}{C:Addr}(c:Cls K C)(f:Str):PySem.W.plainGet K C f=true:=c.pg
section
variable{X:Cx}{pins:List (Addr×Obj)}{Z:St}{H:Hp}{s:Shared}{A:Around}{E:Value->Shared->Prop}{Q:Value->Shared->Prop}{c:Value}{b:Bool}
inductive TyOf (K:PySem.W.Frag) (H:Hp):V->Value->Prop where
 |non:TyOf K H .non (.type "NoneType")
 |bl (x:Bool):TyOf K H (.bl x) (.type "bool")
 |int (i:Int):TyOf K H (.int i) (.type "int")
 |str (x:Str):TyOf K H (.str x) (.type "str")
 |flt (x:UInt64):TyOf K H (.flt x) (.type "float")
 |lst {a:Addr} {xs:List V} (e:H a=some (.lst xs)):TyOf K H (.ref a) (.type "list")
 |frz {a:Addr} {o:Obj} {xs:List V} (e:H a=some (.frz o (.lst xs))):TyOf K H (.ref a) (.type "list")
 |tup {a:Addr} {xs:List V} (e:H a=some (.tup xs)):TyOf K H (.ref a) (.type "tuple")
 |dK {a:Addr} {kvs:List (Key×V)} (e:H a=some (.dK kvs)):TyOf K H (.ref a) (.type "dict")
 |dT {a:Addr} {kvs:List (List Key×V)} (e:H a=some (.dT kvs)):TyOf K H (.ref a) (.type "dict")
 | ins {a C dx:Addr} {fs:List (Str×V)} (e:H a=some (.ins C dx fs)) (cl:Cls K C) (ha:PySem.W.findIn K (.ref C) "__class__" = some (some (.builtin "object.__class__")))
   (hn:PySem.W.specialIn K (.builtin "object.__class__") "__get__" = some (some (.builtin "getset_descriptor.__get__"))) (htk:PySem.W.takesIn K (.builtin "object.__class__")=some true)
   (hm:PySem.W.mroIn K C (.type "object")=some true):TyOf K H (.ref a) (.ref C)
theorem ai1(I:Inv X pins Z H s)(rx:RelV x u)(ty:TyOf X.K H x t)(e:PySem.W.kitOne X.K t c=some b)(h:∀tk,Q (.bool b) {s with toks:=tk}) :
  wpAny (model X.prog X.w) A (call (.builtin "isinstance") [u,c]) Q E s:=by
 cases ty with
 |non=>cases (show u=Value.none from rx);exact cF PySem.W.kitx_none I.kIn True.intro e (λz=>nomatch z) h
 |bl y=>cases (show u=Value.bool y from rx);exact cF PySem.W.kitx_bool I.kIn True.intro e (λz=>nomatch z) h
 |int i=>obtain ⟨t,q⟩:=(show ∃t,u=Value.int i t from rx);cases q;exact cF PySem.W.kitx_int I.kIn True.intro e (λz=>nomatch z) h
 |str y=>obtain ⟨t,q⟩:=(show ∃t,u=Value.str y t from rx);cases q;exact cF PySem.W.kitx_str I.kIn True.intro e (λz=>nomatch z) h
 |flt y=>obtain ⟨t,q⟩:=(show ∃t,u=Value.float y t from rx);cases q;exact cF PySem.W.kitx_float I.kIn True.intro e (λz=>nomatch z) h
 |@lst a xs ea =>
  cases (show u=Value.ref a from rx)
  obtain ⟨_,_,n,_,h1⟩:=(show ObjOk X.prog X.w H s.heap a (.lst xs) from I.hok a _ ea)
  exact cF PySem.W.kitx_list I.kIn ⟨_,h1,rfl⟩ e (λz=>nomatch z) h
 |@frz a ob xs ea =>
  cases (show u=Value.ref a from rx)
  obtain ⟨_,_,_,n,_,h1⟩:=(show ObjOk X.prog X.w H s.heap a (.frz ob (.lst xs)) from I.hok a _ ea)
  exact cF PySem.W.kitx_list I.kIn ⟨_,h1,rfl⟩ e (λz=>nomatch z) h
 |@tup a xs ea =>
  cases (show u=Value.ref a from rx)
  obtain ⟨_,_,_,p⟩:=(show ObjOk X.prog X.w H s.heap a (.tup xs) from I.hok a _ ea)
  obtain ⟨o,h1,h2,_⟩:=p;exact cF PySem.W.kitx_tuple I.kIn ⟨o,h1,h2⟩ e (λz=>nomatch z) h
 |@dK a kvs ea =>
  cases (show u=Value.ref a from rx)
  obtain ⟨_,_,vs,_,p⟩:=(show ObjOk X.prog X.w H s.heap a (.dK kvs) from I.hok a _ ea)
  obtain ⟨o,es,ep,h1,h2,_⟩:=p;exact cF i3 I.kIn ⟨o,h1,h2.1⟩ e (λz=>nomatch z) h
 |@dT a kvs ea =>
  cases (show u=Value.ref a from rx)
  obtain ⟨_,_,xs,_,o,es,ep,h1,h2,_⟩:=(show ObjOk X.prog X.w H s.heap a (.dT kvs) from I.hok a _ ea)
  exact cF i3 I.kIn ⟨o,h1,h2.1⟩ e (λz=>nomatch z) h
 |@ins a C dx fs ea cl ha hn htk hm =>
  cases (show u=Value.ref a from rx)
  obtain ⟨mA,O,_⟩:=aqd I.hok ea;obtain ⟨od,J,_⟩:=O.look;exact cF (PySem.W.kitx_own (cl.get _) cl.hd ha hn htk hm) I.kIn J e (λz=>nomatch z) h
end
structure Room (k:Nat) (A:Around):Prop where
 hd:A.handled=none
 dp:A.depth+3*k+5<recursionLimit
 un:A.units+16*k+200<cLine
 gd:A.guards=some []
theorem Room.mono(r:Room k A)(h:j<=k):Room j A:=⟨r.hd,by have:=r.dp;omega,by have:=r.un;omega,r.gd⟩
theorem Room.deeper(r:Room (k+1) A)(env:Env):Room k (A.deeper env) :=
 ⟨r.hd,by have:=r.dp;show A.depth+1+3*k+5<_;omega,by have:=r.un;show A.units+3+16*k+200<_;omega,r.gd⟩
theorem Room.depth(r:Room k A):A.depth<recursionLimit:=by have:=r.dp;omega
theorem Room.units(r:Room k A):A.units+64<cLine:=by have:=r.un;omega
def b02:TA:=λ_ H Q=>Q [] H
def ayo(ta:TE)(tr:TA):TA:=λZ H Q=>ta Z H λx H1=>tr Z H1 λxs H2=>Q (x::xs) H2
section
variable{X:Cx}{e:Expr}{es:List Expr}{te:TE}{t:TA}{pos:Pos}
theorem a3a:PA X [] b02:=λ_ _ _ _ H Q I h=>i4 ⟨[],H,I,.nil,h⟩
theorem xf(ha:PE X e te)(hr:PA X es t)(hs:starEach (e::es) X.env=(false,eval e X.env)::starEach es X.env:=by rfl):PA X (e::es) (ayo te t):=by
 intro pos pins s Z H Q I h
 rw [hs];show wpAny _ _ (spliced ((false,eval e X.env)::backTo pos (starEach es X.env))) _ _ s;refine hE (thn (ha pins s Z H _ I h) λu s1 ⟨x,H1,I1,r1,q1⟩=>?_);exact thn (hr pos pins s1 Z H1 _ I1 q1) λus s2 ⟨xs,H2,I2,r2,q2⟩=>⟨x::xs,H2,I2,.cons r1 r2,q2⟩
noncomputable def b1f(t:TA):TE:=λZ H Q=>t Z H λxs H1=>xs.length<=sizeLine/\∀p,H1 p=none->Q (.ref p) (upd H1 p (.tup xs))
noncomputable def b1g(t:TA):TE:=λZ H Q=>t Z H λxs H1=>xs.length<=sizeLine/\∀p,H1 p=none->Q (.ref p) (upd H1 p (.lst xs))
theorem auk{x1}(h:PA X es t):PE X (.Tuple es x1 pos) (b1f t):=by
 intro pins s Z H Q I hq
 refine wpAny_Tuple_spliced (thn (h pos pins s Z H _ I hq) λus s1 ⟨xs,H1,I1,r,z,q⟩=>⟨by rw [<-r.length];exact z,?_⟩)
 have hf:H1 s1.heap.objs.size=none:=I1.hok.fresh (aA _);refine ⟨.ref s1.heap.objs.size,upd H1 s1.heap.objs.size (.tup xs),I1.laid (t':=s1.toks) (λb u e=>ai _ e) (aA _) ?_,rfl,q _ hf⟩;exact ⟨z,us,r,⟨_,aJ _ rfl,rfl,_,rfl⟩⟩
theorem aul(h:PA X es t):PE X (.List es pos) (b1g t):=by
 intro pins s Z H Q I hq
 refine wpAny_List_spliced (thn (h pos pins s Z H _ I hq) λus s1 ⟨xs,H1,I1,r,z,q⟩=>⟨by rw [<-r.length];exact z,?_⟩)
 have hf:H1 s1.heap.objs.size=none:=I1.hok.fresh (aA _);refine ⟨.ref s1.heap.objs.size,upd H1 s1.heap.objs.size (.lst xs),I1.laid (t':=s1.toks) (λb u e=>ai _ e) (aA _) ?_,rfl,q _ hf⟩;exact ⟨z,us,0,r,aJ _ rfl⟩
end
abbrev Sp:=List V->Hp->VK->XK->Prop
abbrev CXT:=List Env->Hp->Shared->XK->Value->Shared->Prop
structure Env0 (P:Program) (w:World) (K:PySem.W.Frag) (mg:Str->Option Value) (base:Heap) (A:Around) (outer:List Env) (s:Shared) (H:Hp):Prop where
 frames:A.frames=some outer
 mod:Mod K mg base
 bs:∀b o,base.get? b=some o->s.heap.get? b=some o/\H b=none
 bsz:base.objs.size<=s.heap.objs.size
 funs:s.heap.FunFrames base outer
 frf:∀b∈frs outer,H b=none
 hok:HOk P w H s.heap
 bare:AllBare s.gens
def CE(outer:List Env)(P:Program)(w:World)(H:Hp)(s:Shared)(Q:VK)(u:Value)(s':Shared):Prop :=
 ∃v H',s'.os=s.os/\AllBare s'.gens/\Un (frs outer) [] H H' s.heap s'.heap/\HOk P w H' s'.heap/\RelV v u/\Q v H'
def CR(CX:CXT)(outer:List Env)(P:Program)(w:World)(H:Hp)(s:Shared)(Q:VK)(E:XK)(r:Result)(s':Shared):Prop :=
 match r with
 |.ok (.ret u)=>CE outer P w H s Q u s'
 |.ok _=>False
 |.error e=>CX outer H s E e s'
structure FnOk (P:Program) (w:World) (K:PySem.W.Frag) (mg:Str->Option Value) (base:Heap) (CX:CXT) (k:Nat) (f:Addr) (fd:FuncData) (ps:List Str) (sp:Sp):Prop where
 len:∀vs H Q E,sp vs H Q E->vs.length=ps.length
 run:∀(A:Around) (outer:List Env) (s:Shared) (H:Hp) (args:Args) (us:List Value) (vs:List V) (Q:VK) (E:XK),Room k A->Env0 P w K mg base A outer s H->BindsTo s fd args (ps.zip us)->Vals vs us->sp vs H Q E->
  codeAny (model P w) A (.call (.ref f) args) (CR CX outer P w H s Q E) s
theorem FnOk.imp{P:Program}{w:World}{K:PySem.W.Frag}{mg:Str->Option Value}{base:Heap}{CX:CXT}{k:Nat}{f:Addr}{fd:FuncData}{ps:List Str}{sp sp':Sp}(F:FnOk P w K mg base CX k f fd ps sp)
  (h:∀vs H Q E,sp' vs H Q E->sp vs H Q E):FnOk P w K mg base CX k f fd ps sp' :=
 ⟨λvs H Q E q=>F.len vs H Q E (h _ _ _ _ q),λA outer s H args us vs Q E hr he hb hv hs=>F.run A outer s H args us vs Q E hr he hb hv (h _ _ _ _ hs)⟩
section
variable{X:Cx}{pins:List (Addr×Obj)}{Z:St}{H:Hp}{s s':Shared}
theorem Inv.env0(I:Inv X pins Z H s):Env0 X.prog X.w X.K X.mg X.base X.A X.stack s H :=
 ⟨I.ok.frames,I.ok.mod,I.bs,aW I.ok.bsz I.sz,I.stack,I.stkFree,I.hok,I.bare⟩
theorem Inv.after(I:Inv X pins Z H s)(h:CE X.stack X.prog X.w H s Q u s'):EP X pins Z Q u s':=by
 obtain ⟨v,H',os,bare,un,hok,r,q⟩:=h;obtain ⟨hh,g,d,t,os'⟩:=s';obtain rfl:os'=s.os:=os;exact ⟨v,H',I.call (h':=hh) (g':=g) (d':=d) (t':=t) (ch:=[]) un hok bare (λb z=>absurd z (by simp)),r,q⟩
end
def aum(sp:Sp)(dvs:List V)(E:XK)(t:TA):TE:=λZ H Q=>t Z H λvs H1=>sp (vs++dvs) H1 Q E
def Binds(K:PySem.W.Frag)(fd:FuncData)(ps:List Str)(ds:List Value):Prop :=
 ∀(s:Shared) (us:List Value),K.In s.heap->(us++ds).length=ps.length->BindsTo s fd ⟨us,[]⟩ (ps.zip (us++ds))
theorem Binds.all{K:PySem.W.Frag}{fd:FuncData}{ps:List Str}(h:∀us:List Value,us.length=ps.length->bindArgs fd ⟨us,[]⟩=pure (ps.zip us)):Binds K fd ps []:=λs us _ hl=>by
 rw [bL] at hl ⊢;exact .of_eq (h us hl)
def ae8(CX:CXT)(X:Cx)(E:XK):Prop:=∀(pins:List (Addr×Obj)) (Z:St) (H:Hp) (s:Shared) (e:Value) (s':Shared),Inv X pins Z H s->CX X.stack H s E e s'->X.xe e s'
section
variable{X:Cx}{CX:CXT}{k:Nat}{f C:Addr}{fd:FuncData}{ps:List Str}{sp:Sp}{dvs:List V}{ds:List Value}{E:XK}{x m:Str}{p pos apos:Pos}{e o:Expr}{es:List Expr}{ta:TE}{t:TA}
theorem aor(F:FnOk X.prog X.w X.K X.mg X.base CX k f fd ps sp)(hr:Room k X.A)(hb:Binds X.K fd ps ds)(hd:Vals dvs ds)(hx:ae8 CX X E)
  (I:Inv X pins Z H s) (r:Vals vs us) (h:sp (vs++dvs) H Q E):wpAny (model X.prog X.w) X.A (call (.ref f) us) (EP X pins Z Q) X.xe s:=by
 have r2:Vals (vs++dvs) (us++ds):=r.append hd;have hl:(us++ds).length=ps.length:=by rw [<-r2.length];exact F.len _ _ _ _ h
 refine wpAny_call (gu (F.run X.A X.stack s H ⟨us,[]⟩ (us++ds) (vs++dvs) Q E hr I.env0 (hb s us I.kIn hl) r2 h) λr s' hq=>?_)
 cases r with
 |error e=>exact hx pins Z H s e s' I hq
 |ok fl =>
  cases fl with
  |ret u=>exact I.after hq
  |next=>exact False.elim hq
  |brk=>exact False.elim hq
  |cont=>exact False.elim hq
theorem aqe(F:FnOk X.prog X.w X.K X.mg X.base CX k f fd ps sp)(hr:Room k X.A)(hg:Gl X x)(hm:X.mg x=some (.ref f))(hk:PySem.W.keepIn X.K (.ref f)=true)(hb:Binds X.K fd ps ds)(hd:Vals dvs ds)(hx:ae8 CX X E)
  (ha:PA X (e::es) t) (hdb:(x == ("__debug__" : Str))=false:=by decide) (he:starEach (e::es) X.env=(false,eval e X.env)::starEach es X.env:=by rfl) (hpl:(backTo pos (starEach es X.env)).any (·.1)=false:=by rfl) :
  PE X (.Call (.Name x p) (e::es) [] pos) (aum sp dvs E t):=by
 intro pins s Z H Q I h
 refine dk (ahq I hg hm ?_ hdb);refine PySem.W.callWith_K (h₀:=X.base) I.ok.mod.kin hk (thn (ha pos pins s Z H _ I h) λus s1 ⟨vs,H1,I1,r,q⟩=>⟨I1.kIn,?_⟩) he hpl;exact aor F hr hb hd hx I1 r q
theorem am6(F:FnOk X.prog X.w X.K X.mg X.base CX k f fd ps sp)(hr:Room k X.A)(hg:Gl X x)(hm:X.mg x=some (.ref f))(hk:PySem.W.keepIn X.K (.ref f)=true)(hb:Binds X.K fd ps ds)(hd:Vals dvs ds)(hx:ae8 CX X E)
  (hdb:(x == ("__debug__" : Str))=false:=by decide):PE X (.Call (.Name x p) [] [] pos) (aum sp dvs E b02):=by
 intro pins s Z H Q I h
 refine dk (ahq I hg hm ?_ hdb);exact PySem.W.callWith_K0 I.kIn hk (aor (us:=[]) F hr hb hd hx I .nil h)
end
structure FnScope (N P:List Str) (sc:Scope):Prop where
 kind:sc.kind=.function
 co:sc.isCoroutine=false
 gen:sc.isGenerator=false
 nd:N.Nodup
 pre:N.take P.length=P
 par:∀x∈P,sc.names.lookup x=some .local\/sc.names.lookup x=some .cell
 nofree:∀y∈sc.names,y.2≠.free
theorem aaw{kindOf:Str->Option NameKind}{x:Str}:∀{binds:List (Str×Value)} {m:Str->Option Value},(∀v,(x,v)∉binds)->bindL kindOf binds m x=m x
 |[],_,_=>rfl
 |(n,v)::r,m,h=>by
  unfold bindL;rw [aaw λw hw=>h w (ay _ hw)]
  split
  .have:x≠n:=by rintro rfl;exact h v aI
   simp [this]
  .rfl
theorem aax{kindOf:Str->Option NameKind}{x:Str}:∀{binds:List (Str×Value)} {m:Str->Option Value},(∀v,(x,v)∉binds)->bindC kindOf binds m x=m x
 |[],_,_=>rfl
 |(n,v)::r,m,h=>by
  unfold bindC;rw [aax λw hw=>h w (ay _ hw)]
  split
  .rfl
  .have:x≠n:=by rintro rfl;exact h v aI
   simp [this]
theorem aay{kindOf:Str->Option NameKind}{x:Str}{v:Value}:∀{P:List Str} {vs:List Value} {i:Nat} {m:Str->Option Value},P.Nodup->P[i]? = some x->vs[i]? = some v->kindOf x=some .local->
  bindL kindOf (P.zip vs) m x=some v
 |[],_,_,_,_,h,_,_=>by simp at h
 |_::_,[],_,_,_,_,h,_=>by simp at h
 |p::P,w::vs,0,m,nd,h1,h2,hk=>by
  simp at h1 h2;subst h1;subst h2
  show bindL kindOf ((p,w)::P.zip vs) m p=_;unfold bindL;rw [aaw λv hv=>(eA.mp nd).1 (gP hv).1,aE hk];simp
 |p::P,w::vs,i+1,m,nd,h1,h2,hk=>by
  show bindL kindOf ((p,w)::P.zip vs) m x=_;unfold bindL;exact aay (i:=i) (eA.mp nd).2 (by simpa using h1) (by simpa using h2) hk
theorem aaz{kindOf:Str->Option NameKind}{x:Str}{v:Value}:∀{P:List Str} {vs:List Value} {i:Nat} {m:Str->Option Value},P.Nodup->P[i]? = some x->vs[i]? = some v->kindOf x≠some .local->
  bindC kindOf (P.zip vs) m x=some v
 |[],_,_,_,_,h,_,_=>by simp at h
 |_::_,[],_,_,_,_,h,_=>by simp at h
 |p::P,w::vs,0,m,nd,h1,h2,hk=>by
  simp at h1 h2;subst h1;subst h2
  show bindC kindOf ((p,w)::P.zip vs) m p=_;unfold bindC;rw [aax λv hv=>(eA.mp nd).1 (gP hv).1,aS hk];simp
 |p::P,w::vs,i+1,m,nd,h1,h2,hk=>by
  show bindC kindOf ((p,w)::P.zip vs) m x=_;unfold bindC;exact aaz (i:=i) (eA.mp nd).2 (by simpa using h1) (by simpa using h2) hk
def start(N:List Str)(vs:List V):St:=vs.map some++List.replicate (N.length-vs.length) none
noncomputable def alo(CX:CXT)(P:Program)(w:World)(K:PySem.W.Frag)(mg:Str->Option Value)(base:Heap)(N:List Str)(qual:Str)(scope:Scope)(f:Addr)(cd:Value)(A:Around)(outer:List Env)(s:Shared)(H:Hp)(E:XK):Cx where
 prog:=P
 w:=w
 K:=K
 mg:=mg
 base:=base
 A:=A.deeper (envOfC qual scope s.heap.objs.size f cd)
 N:=N
 s₀:=s
 H₀:=H
 env:=envOfC qual scope s.heap.objs.size f cd
 outer:=outer
 stack:=envOfC qual scope s.heap.objs.size f cd::outer
 ex:=[]
 calm:=true
 fn:=λ_=>true
 pn:=[]
 xe:=λe s'=>wpAny (model P w) (A.deeper (envOfC qual scope s.heap.objs.size f cd)) (leaving (envOfC qual scope s.heap.objs.size f cd) e) (λ_ s''=>CX outer H s E e s'') (λe' s''=>CX outer H s E e' s'') s'
theorem ae9{sc:Scope}(h:sc.names.lookup x=some .cell):∃c,(cellsFrom n sc.names []).lookup x=some c:=by
 have q:=PySem.W.cellsFrom_some sc.names n [] (.inl h);exact fF.mp q
theorem ai2{CX:CXT}{P:Program}{w:World}{K:PySem.W.Frag}{mg:Str->Option Value}{base:Heap}{N ps:List Str}{qual:Str}{scope:Scope}{f:Addr}{cd:Value}{A:Around}{outer:List Env}{s s1:Shared}{H:Hp}{E:XK}{us:List Value}{vs:List V}
  (S:FnScope N ps scope) (hd:A.handled=none) (e0:Env0 P w K mg base A outer s H) (hl:vs.length=ps.length) (r:Vals vs us)
  (x:InCallC s s.heap.objs.size (bindL (envOfC qual scope s.heap.objs.size f cd).kindOf (ps.zip us) λ_=>none) (cellsFrom (s.heap.objs.size+1) scope.names []) (bindC (envOfC qual scope s.heap.objs.size f cd).kindOf (ps.zip us) λ_=>none) s1) :
  Inv (alo CX P w K mg base N qual scope f cd A outer s H E) [] (start N vs) H s1:=by
 have hpl:ps.length<=N.length:=by have:=ah List.length S.pre;rw [bg] at this;omega
 obtain ⟨h1,tk,rfl,hk⟩:=x.done;have noA:∀b:Addr,b∉(alo CX P w K mg base N qual scope f cd A outer s H E).ex:=λb z=>absurd (show b∈([]:List Addr) from z) (by simp)
 refine ⟨⟨e0.mod,S.kind,rfl,rfl,aA _,λy z c h1 h2=>?_,λy hy=>?_,λy c _ h=>?_,λ_=>hd,Around.frames_deeper e0.frames,.inr ⟨rfl,rfl⟩,λb z=>absurd z (noA b),e0.bs,e0.bsz,λb _ _=>noA b,λb z=>absurd z (noA b),e0.funs,e0.frf⟩,
  rfl,e0.bare,Un.kept hk,⟨_,x.toInCall.ns,λi y v h1 h2 h3=>?_⟩,λy c h=>⟨_,x.cell y c h⟩,e0.hok.fresh (aA _),λy c h=>?_,λp hp=>absurd (show p∈([]:List (Addr×Obj)) from hp) (by simp),e0.hok.kept hk,?_⟩
 .exact name_of_addr x.apart (bS h1) (bS h2)
 .have hy:scope.names.lookup y=some .cell\/scope.names.lookup y=some .free:=hy
  rcases hy with hy|hy
  .exact ae9 hy
  .exact absurd rfl (S.nofree _ (bS hy))
 .exact dO (x.above y c (bS h))
 .have hi:i<vs.length:=by
   unfold start at h2
   by_cases hi:i<vs.length
   .exact hi
   .rw [aB (by simpa using hi)] at h2
    rw [dB] at h2
    split at h2<;>cases h2
  have ha:vs[i]? = some v:=by
   unfold start at h2;rw [aP (by simpa using hi),aN] at h2
   cases e:vs[i]? with
   |none=>rw [e] at h2;cases h2
   |some a=>rw [e] at h2;cases h2;rfl
  obtain ⟨u,hu,rv⟩:=r.get ha;have hp:ps[i]? = some y:=by
   rw [<-S.pre,i5 (by omega)];exact h1
  have ndP:ps.Nodup:=by rw [<-S.pre];exact S.nd.sublist (i6 _ _)
  refine ⟨u,rv,?_⟩
  rcases S.par y (bv hp) with k|k
  .exact .inl ⟨k,aay ndP hp hu k⟩
  .obtain ⟨c,e⟩:=ae9 (n:=s.heap.objs.size+1) k;refine .inr ⟨.inl k,c,e,?_⟩;have q:=x.cell y c e;rw [aaz ndP hp hu (by show scope.names.lookup y≠_;rw [k];decide)] at q
   exact q
 .exact e0.hok.fresh (dO (x.above y c (bS h)))
 .unfold start;show _=N.length;rw [av,ax,cG];omega
theorem ayp{CX:CXT}{P:Program}{w:World}{K:PySem.W.Frag}{mg:Str->Option Value}{base:Heap}{k:Nat}{f:Addr}{name qual:Str}{params:Arguments}{body:List Stmt}{scope:Scope}{dV kV doc pm cdv ct oc:Value}{an od:Option Addr}
  {osl:Array (Option Value)} {N ps:List Str} {sp:Sp} (lk:K.lookup f=some ⟨oc,od,.func (PySem.W.fnOf name qual params body scope dV kV doc pm an cdv ct),osl⟩) (hcd:PySem.W.codeIn K cdv qual=true) (S:FnScope N ps scope)
  (len:∀vs H Q E,sp vs H Q E->vs.length=ps.length)
  (hbody:∀(A:Around) (outer:List Env) (s:Shared) (H:Hp) (vs:List V) (Q:VK) (E:XK),Room k (A.deeper (envOfC qual scope s.heap.objs.size f cdv))->sp vs H Q E->
   ∃t,PSs (alo CX P w K mg base N qual scope f cdv A outer s H E) body t/\t {nx:=λ_ H'=>Q .non H',rt:=Q} (start N vs) H) :
  FnOk P w K mg base CX (k+1) f (PySem.W.fnOf name qual params body scope dV kV doc pm an cdv ct) ps sp:=by
 refine ⟨len,λA outer s H args us vs Q E hr e0 hb r hsp=>?_⟩;have hl:=len _ _ _ _ hsp;have KX:K.In s.heap:=e0.mod.kin.keeps λb o e=>(e0.bs b o e).1;have lim:s.heap.NoLimit:=e0.mod.nolimit.keeps λb o e=>(e0.bs b o e).1;have hkind:∀y∈ps.zip us,scope.names.lookup y.1=some .local\/(scope.names.lookup y.1=some .cell/\((cellsFrom (s.heap.objs.size+1) scope.names []).lookup y.1).isSome=true):=λ⟨n,v⟩ hy=>by
  rcases S.par n (gP hy).1 with q|q
  .exact .inl q
  .exact .inr ⟨q,PySem.W.cellsFrom_some _ _ _ (.inl q)⟩
 refine codeAny_call_function hr.depth (KX _ _ lk) rfl S.co S.gen rfl (PySem.W.codeRec_of KX hcd) (hb _ _ _ _ ?_);refine wpAny_newFunctionEnv_cells S.kind hkind λenv he s1 x=>?_;subst he;refine ⟨lim.keeps x.toInCall.keep,codeAny_func ?_⟩;obtain ⟨t,ht,hq⟩:=hbody A outer s H vs Q E (hr.deeper _) hsp;have I:Inv (alo CX P w K mg base N qual scope f cdv A outer s H E) [] (start N vs) H s1:=ai2 S hr.hd e0 hl r x;refine bF (ht [] s1 (start N vs) H _ I hq) (λfl s' hs=>?_) λe s' hs=>hs;have fin:∀{Z':St} {H':Hp} {v:V} {u:Value},Inv (alo CX P w K mg base N qual scope f cdv A outer s H E) [] Z' H' s'->RelV v u->Q v H'->CE outer P w H s Q u s' :=
  λ{Z' H' v u} J rv q=>⟨v,H',J.os,J.bare,J.base,J.hok,rv,q⟩
 cases fl with
 |ret u =>
  obtain ⟨v,Z',H',J,rv,q⟩:=hs;exact fin J rv q
 |next =>
  obtain ⟨Z',H',J,q⟩:=hs;exact fin (v:=V.non) (u:=Value.none) J rfl q
 |brk =>
  obtain ⟨_,_,_,q⟩:=hs;exact False.elim q
 |cont =>
  obtain ⟨_,_,_,q⟩:=hs;exact False.elim q
section
variable{X:Cx}{x:Str}{p pos:Pos}{e:Expr}{es:List Expr}{t:TA}{id T:String}{r:List V->Hp->VK->Prop}
def tCB(r:List V->Hp->VK->Prop)(t:TA):TE:=λZ H Q=>t Z H λvs H1=>r vs H1 Q
theorem a68(hc:CallR X (.builtin id) r)(hg:Gl X x)(hm:X.mg x=none)(hv:bootBuiltins x=some (.builtin id))(ha:PA X (e::es) t)(hn:x ≠ "__name__":=by decide)(hdb:(x == ("__debug__" : Str))=false:=by decide)
  (he:starEach (e::es) X.env=(false,eval e X.env)::starEach es X.env:=by rfl) (hpl:(backTo pos (starEach es X.env)).any (·.1)=false:=by rfl):PE X (.Call (.Name x p) (e::es) [] pos) (tCB r t):=by
 intro pins s Z H Q I h
 refine dk (a2z I hg hm hv ?_ hn hdb);exact PyProof.Rows.callWith_builtin1 (thn (ha pos pins s Z H _ I h) λus s1 ⟨vs,H1,I1,r1,q1⟩=>hc pins s1 Z H1 vs us Q I1 r1 q1) he hpl
theorem a3y(hc:CallR X (.type T) r)(hg:Gl X x)(hm:X.mg x=none)(hv:bootBuiltins x=some (.type T))(ha:PA X (e::es) t)(hn:x ≠ "__name__":=by decide)(hdb:(x == ("__debug__" : Str))=false:=by decide)
  (he:starEach (e::es) X.env=(false,eval e X.env)::starEach es X.env:=by rfl) (hpl:(backTo pos (starEach es X.env)).any (·.1)=false:=by rfl):PE X (.Call (.Name x p) (e::es) [] pos) (tCB r t):=by
 intro pins s Z H Q I h
 refine dk (a2z I hg hm hv ?_ hn hdb);exact bO (thn (ha pos pins s Z H _ I h) λus s1 ⟨vs,H1,I1,r1,q1⟩=>hc pins s1 Z H1 vs us Q I1 r1 q1) he hpl
end
end L2
namespace HT
open PyProof.Rows
section
variable{prog:Program}{w:World}{A:Around}{E:Value->Shared->Prop}{s:Shared}
theorem aqf{vs ws:List Value}(ht:IsTup s.heap t vs.toArray)(hb:IsTup s.heap b ws.toArray)(hv:vs≠[])
  (h1:ws=[]->Q (.ref t) s) (h2:ws≠[]->Q (.ref s.heap.objs.size) {s with heap:=s.heap.push {cls:=.type "tuple",data:=.seq (vs++ws).toArray} })
  (hsz:vs.length+ws.length<=sizeLine):wpAny (model prog w) A (binaryOp .Add (.ref t) (.ref b)) Q E s:=by
 obtain ⟨⟨cls,dd,data,sl⟩,ho,hc,n,hd⟩:=id ht;obtain ⟨⟨cls2,dd2,data2,sl2⟩,ho2,hc2,n2,hd2⟩:=id hb;simp only at hc hd hc2 hd2;subst hc hd hc2 hd2;have e:vs.toArray++ws.toArray=(vs++ws).toArray:=by simp
 by_cases hw:ws=[]
 .exact concat_meets ⟨_,ho,rfl⟩ ⟨_,ho2,rfl⟩ iC seq_tuple_add PySem.F.slot_tuple_add io (i7 _ _)
   (tuple_addW1 t b vs.toArray ws.toArray n n2 dd dd2 sl sl2 (by simpa using hv) (by simp [hw])) ⟨ho,ho2,h1 hw⟩
 .refine concat_meets ⟨_,ho,rfl⟩ ⟨_,ho2,rfl⟩ iC seq_tuple_add PySem.F.slot_tuple_add io (i7 _ _)
   (tuple_addW2 t b vs.toArray ws.toArray n n2 dd dd2 sl sl2 (by simpa using hv) (by simpa using hw) (by rw [aL,aL];exact hsz)) ⟨ho,ho2,?_⟩
  rw [e];exact h2 hw
noncomputable def sIx(n d:Nat):Option Int->Nat
 |none=>d
 |some v=>if v<0 then (v+(n:Int)).toNat else min v.toNat n
theorem a93(n d:Nat):sIx n d none=d:=rfl
theorem a94(n d k:Nat):sIx n d (some (k:Int))=min k n:=by
 show (if (k:Int)<0 then ((k:Int)+(n:Int)).toNat else min (k:Int).toNat n)=min k n
 rw [aS (by omega),cv]
theorem ai3(n d:Nat)(hd:d<=n)(o:Option Int):sIx n d o<=n:=by
 cases o with
 |none=>exact hd
 |some v =>
  show (if v<0 then (v+(n:Int)).toNat else min v.toNat n)<=n
  by_cases hv:v<0
  .rw [aE hv];omega
  .rw [aS hv];exact Nat.min_le_right _ _
theorem ai4(v:Int)(n d:Nat):(if v<0 then max (v+(n:Int)) 0 else min v (n:Int))=((sIx n d (some v):Nat):Int):=by
 show (if v<0 then max (v+(n:Int)) 0 else min v (n:Int))=(((if v<0 then (v+(n:Int)).toNat else min v.toNat n):Nat):Int)
 by_cases hv:v<0
 .simp only [aE hv];omega
 .simp only [aS hv];omega
theorem ag8(lo hi:Option Int)(n:Nat):Builtin.Slice.sliceAdjust lo hi 1 (n:Int)=(((sIx n 0 lo:Nat):Int),((sIx n n hi:Nat):Int)):=by
 have h1:¬ ((1:Int)<0):=by omega
 unfold Builtin.Slice.sliceAdjust;simp only [h1,dC];refine Prod.ext ?_ ?_
 .cases lo with
  |none=>rfl
  |some v=>exact ai4 v n 0
 .cases hi with
  |none=>rfl
  |some v=>exact ai4 v n n
theorem ag9(i j:Nat):Builtin.Slice.slicePlaces (i:Int) (j:Int) 1=j-i:=by
 unfold Builtin.Slice.slicePlaces;have h1:(1:Int) > 0:=by omega
 simp only [h1,db,Int.ediv_one]
 split<;>omega
theorem a8j(p:IsPart v o)(h:Q o s):wpAny (model prog w) A (Builtin.Slice.slicePartIndex v) Q E s:=by
 cases p with
 |none=>exact slicePart_none h
 |int i t=>exact slicePart_int h
theorem a1q{sl:Addr}{vl vu:Value}{lo hi:Option Int}{n:Nat}{Q:Int×Int×Nat->Shared->Prop}(hs:s.heap.IsSliceOf sl vl vu .none)(pl:IsPart vl lo)(pu:IsPart vu hi)
  (h:Q (((sIx n 0 lo:Nat):Int),1,sIx n n hi-sIx n 0 lo) s):wpAny (model prog w) A (Builtin.Slice.sliceApplied (.ref sl) (pure (n:Int))) Q E s:=by
 obtain ⟨os,hos,hcs,hds⟩:=id hs;unfold Builtin.Slice.sliceApplied Builtin.Slice.sliceFields;refine af (af (cR hos hds (x:=vl) rfl (af (cR hos hds (x:=vu) rfl (af (cR hos hds (x:=.none) rfl (ar ?_)))))));refine af (slicePart_none ?_);show wpAny _ _ (if ((1:Int) == 0)=true then _ else _) _ _ s
 rw [aS (by decide)]
 refine af (a8j pl (af (a8j pu (af (ar ?_)))));show wpAny _ _ (match Builtin.Slice.sliceAdjust lo hi 1 (n:Int) with|(lo,hi)=>pure (lo,(1:Int),Builtin.Slice.slicePlaces lo hi 1)) _ _ s
 rw [ag8 lo hi n];show wpAny _ _ (pure (((sIx n 0 lo:Nat):Int),(1:Int),Builtin.Slice.slicePlaces ((sIx n 0 lo:Nat):Int) ((sIx n n hi:Nat):Int) 1)) _ _ s;rw [ag9];exact ar h
theorem am7(xs:Array Value)(i k:Nat):((List.range k).filterMap λ(m:Nat)=>xs[((i:Int)+(m:Int)*1).toNat]?).toArray=((xs.toList.drop i).take k).toArray:=by
 have e:(λ(m:Nat)=>xs[((i:Int)+(m:Int)*1).toNat]?)=λm=>xs[i+m]?:=by
  funext m
  have:((i:Int)+(m:Int)*1).toNat=i+m:=by omega
  rw [this]
 rw [e];have:=pick_run xs i k;rw [eI] at this;have e2:((λx=>xs[x]?) ∘ λx=>i+x)=λm=>xs[i+m]?:=rfl;rw [e2] at this;rw [this]
theorem a4x{t sl:Addr}{items:Array Value}{vl vu:Value}{lo hi:Option Int}{Q:Value->Shared->Prop}(ht:IsTup s.heap t items)(hs:s.heap.IsSliceOf sl vl vu .none)(pl:IsPart vl lo)(pu:IsPart vu hi)
  (hw:¬ (sIx items.size 0 lo=0/\sIx items.size items.size hi=items.size))
  (h:Q (.ref s.heap.objs.size) {s with heap:=s.heap.push {cls:=.type "tuple",data:=.seq ((items.toList.drop (sIx items.size 0 lo)).take (sIx items.size items.size hi-sIx items.size 0 lo)).toArray} })
  (hsz:items.size<=sizeLine):wpAny (model prog w) A (getItem (.ref t) (.ref sl)) Q E s:=by
 have htake:sizeOk (.seq ((items.toList.drop (sIx items.size 0 lo)).take (sIx items.size items.size hi-sIx items.size 0 lo)).toArray):=by
  show ((items.toList.drop (sIx items.size 0 lo)).take (sIx items.size items.size hi-sIx items.size 0 lo)).toArray.size<=sizeLine;rw [aL,bg,bN,aO];omega
 have hj:sIx items.size items.size hi<=items.size:=ai3 _ _ (aA _) hi;obtain ⟨os,hos,hcs,hds⟩:=id hs;have hTs:s.TypeIs (.ref sl) "slice":=⟨os,hos,hcs⟩;unfold getItem
 try with_reducible refine bR ?_
 first|refine af (ar ?_)|skip
 refine af (wpAny_sequenceKey ht.typeIs (by decide) ?_)
 refine af (cK (name:=Str.ofString "__getitem__") ht.typeIs c4
  (bX c4 ht.typeIs entry_tuple_getitem ?_ (args_tuple_getitem _ _)))
 show wpAny _ _ (Builtin.Tuple.tupleItemsOf (.ref t)>>=_) _ _ s;refine af (tupleItemsOf_ ht ?_);refine af (gy hTs ?_);rw [aE (by decide)]
 refine af (a1q hs pl pu ?_);have hno:¬ ((((sIx items.size 0 lo:Nat):Int) == 0 && (1:Int) == 1 && (sIx items.size items.size hi-sIx items.size 0 lo) == items.size)=true):=by
  intro q
  rw [cf,cf] at q;have q1:((sIx items.size 0 lo:Nat):Int)=0:=eq_of_beq q.1.1;have q2:sIx items.size items.size hi-sIx items.size 0 lo=items.size:=eq_of_beq q.2;exact hw ⟨by omega,by omega⟩
 show wpAny _ _ (if (((sIx items.size 0 lo:Nat):Int) == 0 && (1:Int) == 1 && (sIx items.size items.size hi-sIx items.size 0 lo) == items.size)=true then _ else _) _ _ s
 rw [aS hno,am7]
 first
  |exact af (m:=Builtin.Tuple.tupleExact _) (cA (ar ⟨_,rfl,ar h⟩) htake)
  |exact af (m:=Builtin.Tuple.tupleExact _) (cA (af (ar (ar ⟨_,rfl,ar h⟩))) htake)
  |exact af (af (m:=Builtin.Tuple.tupleExact _) (cA (ar (ar ⟨_,rfl,ar h⟩)) htake))
  |exact af (af (m:=Builtin.Tuple.tupleExact _) (cA (ar ⟨_,rfl,ar h⟩) htake))
end
end HT
namespace L2
open PyProof.Rows
abbrev TO:=St->Hp->(Option Int->Hp->Prop)->Prop
def PO(X:Cx)(e:Option Expr)(t:TO):Prop :=
 ∀(pins:List (Addr×Obj)) (s:Shared) (Z:St) (H:Hp) (Q:Option Int->Hp->Prop),Inv X pins Z H s->t Z H Q->
  wpAny (model X.prog X.w) X.A (evalPart e X.env) (λu s'=>∃o H',Inv X pins Z H' s'/\IsPart u o/\Q o H') X.xe s
def aqg:TO:=λ_ H Q=>Q none H
def ayq(t:TE):TO:=λZ H Q=>t Z H λx H1=>∃i,x=.int i/\Q (some i) H1
theorem intsAre_of{ns:List Int}:∀{us:List Value},Vals (ns.map V.int) us->IntsAre us ns:=by
 induction ns with
 |nil=>intro us r;rw [dD] at r;cases r;exact .nil
 |cons n ns ih =>
  intro us r
  rw [aT] at r
  cases r with
  |cons r1 r2 =>
   obtain ⟨t,e⟩:=r1;subst e;exact .cons n t (ih r2)
section
variable{X:Cx}{e:Expr}{te:TE}{lo hi:Option Expr}{tl th:TO}{pos p2:Pos}
theorem aqh:PO X none aqg:=by
 intro pins s Z H Q I h
 rw [evalPart_none];exact ar ⟨none,H,I,.none,h⟩
theorem aqi(h:PE X e te):PO X (some e) (ayq te):=by
 intro pins s Z H Q I hw
 rw [evalPart_some];refine thn (h pins s Z H _ I hw) ?_
 rintro u s1 ⟨x,H1,I1,r1,q1⟩
 obtain ⟨i,rfl,q⟩:=q1;obtain ⟨t,rfl⟩:=r1;exact ⟨some i,H1,I1,.int i t,q⟩
def SlR(X:Cx)(r:V->Option Int->Option Int->Hp->VK->Prop):Prop :=
 ∀(pins:List (Addr×Obj)) (s:Shared) (Z:St) (H:Hp) (x:V) (v vl vu:Value) (lo hi:Option Int) (sl:Addr) (Q:VK),Inv X pins Z H s->RelV x v->s.heap.IsSliceOf sl vl vu .none->IsPart vl lo->IsPart vu hi->r x lo hi H Q->
  ∃T id,typeLookup (.type T) "__getitem__" = pure (some (.builtin id))/\s.TypeIs v T/\wpAny (model X.prog X.w) X.A (getItem v (.ref sl)) (EP X pins Z Q) X.xe s
theorem SlR.or(h:SlR X r)(h':SlR X r'):SlR X (λx lo hi H Q=>r x lo hi H Q\/r' x lo hi H Q):=by
 intro pins s Z H x v vl vu lo hi sl Q I rx hs pl pu q
 rcases q with q|q
 .exact h pins s Z H x v vl vu lo hi sl Q I rx hs pl pu q
 .exact h' pins s Z H x v vl vu lo hi sl Q I rx hs pl pu q
def tSl(r:V->Option Int->Option Int->Hp->VK->Prop)(te:TE)(tl th:TO):TE:=λZ H Q=>te Z H λx H1=>tl Z H1 λl H2=>th Z H2 λu H3=>r x l u H3 Q
theorem am8(hr:SlR X r)(he:PE X e te)(hl:PO X lo tl)(hu:PO X hi th):PE X (.Subscript e (.Slice lo hi none p2) pos) (tSl r te tl th):=by
 intro pins s Z H Q I h
 refine Subscript_ (thn (he pins s Z H _ I h) λv s1 ⟨x,H1,I1,r1,q1⟩=>?_);refine wpAny_Slice (thn (hl pins s1 Z H1 _ I1 q1) λvl s2 ⟨l,H2,I2,pl,q2⟩=>thn (hu pins s2 Z H2 _ I2 q2) λvu s3 ⟨u,H3,I3,pu,q3⟩=>?_);rw [evalPart_none];refine ar ?_;have I4:Inv X pins Z H3 {s3 with heap:=s3.heap.push {cls:=.type "slice",data:=.fields #[vl,vu,.none]} }:=I3.kept (t':=s3.toks) λb ob q=>ai _ q
 obtain ⟨T,id,hT,ht,hg⟩:=hr pins {s3 with heap:=s3.heap.push {cls:=.type "slice",data:=.fields #[vl,vu,.none]} } Z H3 x v vl vu l u s3.heap.objs.size Q I4 r1 (Heap.IsSliceOf.new ..) pl pu q3
 show wpAny (model X.prog X.w) X.A (subscriptTail e (.Slice lo hi none p2) v (.ref s3.heap.objs.size)) (EP X pins Z Q) X.xe {s3 with heap:=s3.heap.push {cls:=.type "slice",data:=.fields #[vl,vu,.none]} }
 exact tail_any (ops:=[.ref s3.heap.objs.size,v]) ht hT hg (by with_unfolding_all rfl)
noncomputable def aos(xs:List V)(lo hi:Option Int):List V:=(xs.drop (HT.sIx xs.length 0 lo)).take (HT.sIx xs.length xs.length hi-HT.sIx xs.length 0 lo)
theorem a6p(xs:List V)(lo hi:Option Int):(aos xs lo hi).length<=xs.length:=by
 unfold aos;rw [bg,bN];omega
def ayr(K:PySem.W.Frag):V->Option Int->Option Int->Hp->VK->Prop:=λx lo hi H Q=>∃a xs,x=.ref a/\SqT K H a xs /\
 ¬ (HT.sIx xs.length 0 lo=0/\HT.sIx xs.length xs.length hi=xs.length)/\∀p,H p=none->Q (.ref p) (upd H p (.tup (aos xs lo hi)))
theorem aun:SlR X (ayr X.K):=by
 intro pins s Z H x v vl vu lo hi sl Q I rx hs pl pu h
 obtain ⟨a,xs,rfl,hx,hw,q⟩:=h;cases rx
 obtain ⟨its,r,ht,hz⟩:=I.tuple hx;have hlen:its.toArray.size=xs.length:=by rw [aL];exact r.length.symm
 refine ⟨"tuple",_,c4.lookup,ht.typeIs,?_⟩;refine HT.a4x ht hs pl pu (by rw [hlen];exact hw) ?_ (by rw [hlen];exact hz)
 rw [hlen];refine ⟨.ref s.heap.objs.size,_,I.laid (t':=s.toks) (o:=.tup (aos xs lo hi)) (λb ob q=>ai _ q) (aA _) ?_,rfl,q _ (I.hok.fresh (aA _))⟩;exact ⟨aW (a6p xs lo hi) hz,_,(r.drop (HT.sIx xs.length 0 lo)).take (HT.sIx xs.length xs.length hi-HT.sIx xs.length 0 lo),IsTup.new _ _⟩
noncomputable def auo(K:PySem.W.Frag):R2:=λx y H Q=>∃a b xs ys,x=.ref a/\y=.ref b/\SqT K H a xs/\SqT K H b ys/\xs≠[]/\xs.length+ys.length<=sizeLine /\
 (ys=[]->Q (.ref a) H)/\(ys≠[]->∀p,H p=none->Q (.ref p) (upd H p (.tup (xs++ys))))
theorem Vals.nil_iff(r:Vals xs us):us=[]↔xs=[]:=by
 cases r with
 |nil=>simp
 |cons _ _=>simp
theorem aqj:OpR X (binaryOp .Add) (auo X.K):=by
 intro pins s Z H x y v u Q I rx ry h
 obtain ⟨a,b,xs,ys,rfl,rfl,ha,hb,hx,hz,q1,q2⟩:=h;cases rx
 cases ry
 obtain ⟨its,r1,p1,_⟩:=I.tuple ha;obtain ⟨its2,r2,p2,_⟩:=I.tuple hb;refine HT.aqf p1 p2 (λz=>hx (r1.nil_iff.mp z)) (λz=>⟨.ref a,H,I,rfl,q1 (r2.nil_iff.mp z)⟩) (λz=>?_) (by rw [<-r1.length,<-r2.length];exact hz)
 refine ⟨.ref s.heap.objs.size,_,I.laid (t':=s.toks) (o:=.tup (xs++ys)) (λb ob q=>ai _ q) (aA _) ?_,rfl,q2 (λw=>z (r2.nil_iff.mpr w)) _ (I.hok.fresh (aA _))⟩;exact ⟨by rw [av];exact hz,_,r1.append r2,IsTup.new _ _⟩
end
noncomputable def ixN(n:Nat)(i:Int):Option Nat:=if 0<=i then (if i<n then some i.toNat else none) else if -(n:Int)<=i then some (i+n).toNat else none
def atI{α:Type}(xs:List α)(i:Int):Option α:=(ixN xs.length i).bind λj=>xs[j]?
theorem ai5(h:ixN n i=some j):seqIndex? i n=some j/\j<n /\ -(n:Int)<=i/\i<n:=by
 unfold ixN at h
 by_cases h0:0<=i
 .rw [aE h0] at h
  by_cases h1:i<n
  .rw [aE h1] at h;have e:i.toNat=j:=bK h;exact ⟨by rw [seqIndex_of h0 h1,e],by omega,by omega,h1⟩
  .rw [aS h1] at h;cases h
 .rw [aS h0] at h
  by_cases h1 : -(n:Int)<=i
  .rw [aE h1] at h;have e:(i+n).toNat=j:=bK h;exact ⟨by rw [seqIndex_neg (by omega) h1,e],by omega,h1,by omega⟩
  .rw [aS h1] at h;cases h
theorem aco{α:Type}{xs:List α}{i:Int}{v:α}(h:atI xs i=some v):∃j,seqIndex? i xs.length=some j/\xs[j]? = some v/\j<xs.length /\ -(xs.length:Int)<=i/\i<xs.length:=by
 unfold atI at h
 cases e:ixN xs.length i with
 |none=>rw [e] at h;cases h
 |some j =>
  rw [e] at h;obtain ⟨h1,h2,h3,h4⟩:=ai5 e;exact ⟨j,h1,h,h2,h3,h4⟩
theorem ye{α:Type}{xs:List α}{j:Nat}{v:α}(h:xs[j]? = some v):atI xs (j:Int)=some v:=by
 have hj:j<xs.length:=(am.mp h).1;have e:ixN xs.length (j:Int)=some j:=by
  unfold ixN;rw [aE (by omega),aE (by omega)];simp
 unfold atI;rw [e];exact h
def a95(b:Expr):Prop:=∀o i,subscripted b false o i=operate [o,i] (getItem o i)
def IxR(X:Cx)(r:R2):Prop :=
 ∀(value slice:Expr) (pins:List (Addr×Obj)) (s:Shared) (Z:St) (H:Hp) (x y:V) (v u:Value) (Q:VK),Inv X pins Z H s->RelV x v->RelV y u->r x y H Q->
  subscripted slice false v u=operate [v,u] (getItem v u)->wpAny (model X.prog X.w) X.A (subscriptTail value slice v u) (EP X pins Z Q) X.xe s
def MtR(X:Cx)(id:String)(r:V->List V->Hp->VK->Prop):Prop :=
 ∀(pins:List (Addr×Obj)) (s:Shared) (Z:St) (H:Hp) (x:V) (xs:List V) (v:Value) (us:List Value) (Q:VK),Inv X pins Z H s->RelV x v->Vals xs us->r x xs H Q->
  wpAny (model X.prog X.w) X.A (call (.builtin id) (v::us)) (EP X pins Z Q) X.xe s
section
variable{X:Cx}{a b:Expr}{ta tb:TE}{pos:Pos}
theorem IxR.or(h:IxR X r)(h':IxR X r'):IxR X (λx y H Q=>r x y H Q\/r' x y H Q):=by
 intro value slice pins s Z H x y v u Q I rx ry q hs
 rcases q with q|q
 .exact h value slice pins s Z H x y v u Q I rx ry q hs
 .exact h' value slice pins s Z H x y v u Q I rx ry q hs
theorem MtR.or{id:String}{r r':V->List V->Hp->VK->Prop}(h:MtR X id r)(h':MtR X id r'):MtR X id (λx xs H Q=>r x xs H Q\/r' x xs H Q):=by
 intro pins s Z H x xs v us Q I rx rs q
 rcases q with q|q
 .exact h pins s Z H x xs v us Q I rx rs q
 .exact h' pins s Z H x xs v us Q I rx rs q
theorem ays(hr:IxR X r)(ha:PE X a ta)(hb:PE X b tb)(hs:a95 b):PE X (.Subscript a b pos) (tOp r ta tb):=by
 intro pins s Z H Q I h
 exact Subscript_ (ayl ha hb I h λv u s2 x y H2 I2 rx ry q=>hr a b pins s2 Z H2 x y v u Q I2 rx ry q (hs _ _))
noncomputable def b03(K:PySem.W.Frag):R2:=λx y H Q=>∃p xs i v,x=.ref p/\y=.int i/\SqL K H p xs/\atI xs i=some v/\Q v H
noncomputable def b04(K:PySem.W.Frag):R2:=λx y H Q=>∃p xs i v,x=.ref p/\y=.int i/\SqT K H p xs/\atI xs i=some v/\Q v H
noncomputable def b05:R2:=λx y H Q=>∃z i c,x=.str z/\y=.int i/\z.length<=sizeLine/\atI z.cps.toList i=some c/\Q (.str ⟨#[c]⟩) H
theorem aqk:IxR X (b03 X.K):=by
 intro value slice pins s Z H x y v u Q I rx ry h hs
 obtain ⟨p,xs,i,z,rfl,rfl,hq,he,q⟩:=h;cases rx
 obtain ⟨t,rfl⟩:=ry;obtain ⟨its,r,pl,hz⟩:=I.list hq;obtain ⟨j,h1,h2,h3,h4,h5⟩:=aco he;obtain ⟨w,ew,rw'⟩:=r.get h2;have hl:=r.length;have hn:=a6n;have fin:EP X pins Z Q w s:=⟨z,H,I,rw',q⟩
 by_cases h0:0<=i
 .have hj:i.toNat=j:=by
   rw [seqIndex_of h0 h5] at h1;exact bK h1
  exact item_listR pl.isList h0 (by omega) (by rw [hj];simpa using ew) fin hs
 .have hj:(i+(its.toArray.size:Int)).toNat=j:=by
   rw [seqIndex_neg (by omega) h4] at h1
   rw [aL,<-hl];exact bK h1
  exact subscriptTail_builtinR (x:=w) pl.isList.typeIs i8.lookup
   (wpAny_getItem_list_neg (Q:=λr s'=>r=w/\EP X pins Z Q r s') pl.isList (by omega) (by rw [aL]<;>omega) (by omega) (by rw [hj];simpa using ew) ⟨rfl,fin⟩) hs
theorem a6q:IxR X (b04 X.K):=by
 intro value slice pins s Z H x y v u Q I rx ry h hs
 obtain ⟨p,xs,i,z,rfl,rfl,hq,he,q⟩:=h;cases rx
 obtain ⟨t,rfl⟩:=ry;obtain ⟨its,r,pl,hz⟩:=I.tuple hq;obtain ⟨j,h1,h2,h3,h4,h5⟩:=aco he;obtain ⟨w,ew,rw'⟩:=r.get h2;have hl:=r.length;have hn:=a6n;have fin:EP X pins Z Q w s:=⟨z,H,I,rw',q⟩;exact subscriptTail_builtinR (x:=w) pl.typeIs slot_tuple_getitem.lookup
  (getItem_tuple (j:=j) (Q:=λr s'=>r=w/\EP X pins Z Q r s') pl (by omega) (by omega) (by rw [aL,<-hl];exact h1) (by simpa using ew) ⟨rfl,fin⟩) hs
theorem aup:IxR X b05:=by
 intro value slice pins s Z H x y v u Q I rx ry h hs
 obtain ⟨z,i,c,rfl,rfl,hz,he,q⟩:=h;obtain ⟨t,rfl⟩:=rx;obtain ⟨t',rfl⟩:=ry;obtain ⟨j,h1,h2,h3,h4,h5⟩:=aco he;have hl:z.cps.toList.length=z.length:=by simp [Str.length]
 rw [hl] at h1 h4 h5;have hn:=a6n;exact tail_any (typeIs_str s z t) slot_str_getitem.lookup (getItem_str (c:=c) (by
  have e1:decide (i < -(2^63:Int))=false:=aY (by omega)
  have e2:decide (i≥2^63)=false:=aY (by omega)
  rw [e1,e2,Bool.or_false]) (by rw [h1];simpa using h2) ⟨.str ⟨#[c]⟩,H,I.tok _,⟨_,rfl⟩,q⟩) hs
def rIx(K:PySem.W.Frag):R2:=λx y H Q=>b03 K x y H Q\/b04 K x y H Q\/b05 x y H Q
theorem auq:IxR X (rIx X.K):=aqk.or (a6q.or aup)
theorem aga(its:List Value)(n j:Nat)(u:Value):Obj.mapSeq (·.setIfInBounds j u) {cls:=.type "list",data:=.seq its.toArray n}={cls:=.type "list",data:=.seq (its.set j u).toArray n}:=by
 simp [Obj.mapSeq]
theorem Inv.lst{pins:List (Addr×Obj)}{Z:St}{H:Hp}{s:Shared}{p:Addr}{xs:List V}(I:Inv X pins Z H s)(h:H p=some (.lst xs)) :
  ∃(its:List Value) (n:Nat),Vals xs its/\s.heap.get? p=some {cls:=.type "list",data:=.seq its.toArray n}/\xs.length<=sizeLine:=by
 obtain ⟨z,its,n,r,e⟩:=I.hok p _ h;exact ⟨its,n,r,e,z⟩
theorem Inv.lstUpd{its its':List Value}(I:Inv X pins Z H s)(h:H p=some (.lst xs))
  (ho:s.heap.get? p=some {cls:=.type "list",data:=.seq its.toArray n}) (hf:f {cls:=.type "list",data:=.seq its.toArray n}={cls:=.type "list",data:=.seq its'.toArray n' }) (r:Vals ys its') (hz:ys.length<=sizeLine) (t:Nat) :
  Inv X pins Z (upd H p (.lst ys)) {s with heap:=s.heap.update p f,toks:=t}:=by
 have e:(s.heap.update p f).get? p=some {cls:=.type "list",data:=.seq its'.toArray n' }:=by
  rw [bG f ho (by rw [hf]<;>rfl),hf]
 refine I.write (x:=p) (e:=p) (by rw [h];trivial) (.inl rfl) (λb u hb q=>(bU _ _ (ee hb)).trans q) ⟨_,e⟩ ?_
 exact ⟨hz,its',n',r,e⟩
def aur:V->V->V->Hp->(Hp->Prop)->Prop:=λo i v H Q=>∃p xs k j,o=.ref p/\i=.int k/\H p=some (.lst xs)/\ixN xs.length k=some j/\Q (upd H p (.lst (xs.set j v)))
theorem set_list:azy X aur:=by
 intro pins s Z H o i v ov iv u Q I ro ri rv h
 obtain ⟨p,xs,k,j,rfl,rfl,hp,hj,q⟩:=h;cases ro
 obtain ⟨t,rfl⟩:=ri;obtain ⟨its,n,r,ho,hz⟩:=I.lst hp;obtain ⟨h1,h2,h3,h4⟩:=ai5 hj;have hl:=r.length;have hn:=a6n;have I':Inv X pins Z (upd H p (.lst (xs.set j v))) {s with heap:=s.heap.update p (Obj.mapSeq (·.setIfInBounds j u))} :=
  I.lstUpd hp ho (aga its n j u) (r.set rv j) (by rw [eK];exact hz) s.toks
 by_cases h0:0<=k
 .have hk:k.toNat=j:=by
   rw [seqIndex_of h0 h4] at h1;exact bK h1
  exact PySem.W.ki_setAt ho h0 (by omega) (by rw [aL,<-hl];exact h4) (by rw [hk];exact ⟨_,I',q⟩)
 .have hk:(k+(its.toArray.size:Int)).toNat=j:=by
   rw [seqIndex_neg (by omega) h3] at h1
   rw [aL,<-hl];exact bK h1
  exact PySem.W.ki_setBack ho (by omega) (by rw [aL,<-hl];exact h3) (by omega) (by rw [hk];exact ⟨_,I',q⟩)
theorem ab0(lo hi:Option Int)(n:Nat):(sliceBounds lo hi none n).1=((HT.sIx n 0 lo:Nat):Int)/\(sliceBounds lo hi none n).2.1=((HT.sIx n n hi:Nat):Int)/\(sliceBounds lo hi none n).2.2=1:=by
 refine ⟨?_,?_,rfl⟩
 .cases lo with
  |none=>simp [sliceBounds,HT.sIx]
  |some i =>
   simp only [sliceBounds,HT.sIx,iD,show (1:Int) > 0 by decide,db]
   by_cases h:i<0
   .simp only [h,db]<;>omega
   .simp only [h,dC]<;>omega
 .cases hi with
  |none=>simp [sliceBounds,HT.sIx]
  |some i =>
   simp only [sliceBounds,HT.sIx,iD,show (1:Int) > 0 by decide,db]
   by_cases h:i<0
   .simp only [h,db]<;>omega
   .simp only [h,dC]<;>omega
theorem a96(its:List Value)(lo hi:Option Int):slicePick its.toArray lo hi none=((its.drop (HT.sIx its.length 0 lo)).take (HT.sIx its.length its.length hi-HT.sIx its.length 0 lo)).toArray:=by
 obtain ⟨h1,h2,h3⟩:=ab0 lo hi its.toArray.size;unfold slicePick;rw [h1,h2,h3];simp only [sliceRange_one,pick_run,aL]<;>rfl
def ayt(K:PySem.W.Frag):V->Option Int->Option Int->Hp->VK->Prop:=λx lo hi H Q=>∃a xs,x=.ref a/\SqL K H a xs/\∀p,H p=none->Q (.ref p) (upd H p (.lst (aos xs lo hi)))
theorem aql:SlR X (ayt X.K):=by
 intro pins s Z H x v vl vu lo hi sl Q I rx hs pl pu h
 obtain ⟨a,xs,rfl,hx,q⟩:=h;cases rx
 obtain ⟨its,r,ht,hz⟩:=I.list hx;have hlen:=r.length;refine ⟨"list",_,i8.lookup,ht.isList.typeIs,?_⟩;refine wpAny_getItem_list_slice ht.isList hs pl pu .none (by simp) ?_ (by rw [aL]<;>omega)
 rw [a96,<-hlen];refine ⟨.ref s.heap.objs.size,_,I.laid (t':=s.toks) (o:=.lst (aos xs lo hi)) (λb ob q=>ai _ q) (aA _) ?_,rfl,q _ (I.hok.fresh (aA _))⟩;exact ⟨aW (a6p xs lo hi) hz,_,0,(r.drop (HT.sIx xs.length 0 lo)).take (HT.sIx xs.length xs.length hi-HT.sIx xs.length 0 lo),aJ _ rfl⟩
def a3i:V->Bool
 |.non=>true
 |.bl _=>true
 |.int _=>true
 |.str _=>true
 |_=>false
noncomputable def eqV:V->V->Bool
 |.non,.non=>true
 |.bl a,.bl b=>a == b
 |.bl a,.int b=>(if a then 1 else 0) == b
 |.int a,.bl b=>a == (if b then 1 else 0)
 |.int a,.int b=>a == b
 |.str a,.str b=>a == b
 |_,_=>false
theorem ai6(ry:RelV y u)(rx:RelV x v)(fy:a3i y=true)(fx:a3i x=true):SeqAt.EqAt A s u v (eqV y x):=by
 cases y with
 |non =>
  cases ry
  cases x with
  |non=>cases rx;exact SeqAt.EqAt.same _
  |bl b=>cases rx;exact SeqAt.EqAt.none_bool b
  |int b=>obtain ⟨t,rfl⟩:=rx;exact SeqAt.EqAt.none_int b t
  |str b=>obtain ⟨t,rfl⟩:=rx;exact SeqAt.EqAt.none_str b t
  |_=>exact absurd (show false=true from fx) aX
 |bl a =>
  cases ry
  cases x with
  |non=>cases rx;exact SeqAt.EqAt.bool_none a
  |bl b=>cases rx;exact SeqAt.EqAt.bool_bool a b
  |int b=>obtain ⟨t,rfl⟩:=rx;exact SeqAt.EqAt.bool_int a b t
  |str b=>obtain ⟨t,rfl⟩:=rx;exact SeqAt.EqAt.bool_str a b t
  |_=>exact absurd (show false=true from fx) aX
 |int a =>
  obtain ⟨t',rfl⟩:=ry
  cases x with
  |non=>cases rx;exact SeqAt.EqAt.int_none a t'
  |bl b=>cases rx;exact SeqAt.EqAt.int_bool a t' b
  |int b=>obtain ⟨t,rfl⟩:=rx;exact SeqAt.EqAt.int_int a t' b t
  |str b=>obtain ⟨t,rfl⟩:=rx;exact SeqAt.EqAt.int_str a t' b t
  |_=>exact absurd (show false=true from fx) aX
 |str a =>
  obtain ⟨t',rfl⟩:=ry
  cases x with
  |non=>cases rx;exact SeqAt.EqAt.str_none a t'
  |bl b=>cases rx;exact SeqAt.EqAt.str_bool a t' b
  |int b=>obtain ⟨t,rfl⟩:=rx;exact SeqAt.EqAt.str_int a t' b t
  |str b=>obtain ⟨t,rfl⟩:=rx;exact SeqAt.EqAt.str_str a t' b t
  |_=>exact absurd (show false=true from fx) aX
 |_=>exact absurd (show false=true from fy) aX
noncomputable def eqU(x:V)(u:Value):Bool:=match u with
 |.none=>eqV .non x
 |.bool b=>eqV (.bl b) x
 |.int i _=>eqV (.int i) x
 |.str z _=>eqV (.str z) x
 |_=>false
theorem aot(r:RelV y u)(f:a3i y=true):eqU x u=eqV y x:=by
 cases y with
 |non=>cases r;rfl
 |bl b=>cases r;rfl
 |int i=>obtain ⟨t,rfl⟩:=r;rfl
 |str z=>obtain ⟨t,rfl⟩:=r;rfl
 |_=>exact absurd (show false=true from f) aX
theorem a6r:∀{xs:List V} {us:List Value},Vals xs us->xs.all a3i=true->us.any (eqU x)=xs.any λy=>eqV y x
 |_,_,.nil,_=>rfl
 |y::xs,u::us,.cons r t,f=>by
  rw [gJ,cf] at f;rw [gK,gK,aot r f.1,a6r t f.2]
theorem a3z(rx:RelV x v)(fx:a3i x=true):∀{xs:List V} {us:List Value},Vals xs us->xs.all a3i=true->∀u∈us,SeqAt.EqAt A s u v (eqU x u)
 |_,_,.nil,_=>λu hu=>by cases hu
 |y::xs,u::us,.cons r t,f=>λu' hu=>by
  rw [gJ,cf] at f
  rcases aC.mp hu with rfl|hu
  .rw [aot r f.1];exact ai6 r rx f.1 fx
  .exact a3z rx fx t f.2 u' hu
def inV(x:V)(xs:List V):Bool:=xs.any λy=>eqV y x
noncomputable def rIn(K:PySem.W.Frag)(neg:Bool):R2:=λx y H Q=>∃p xs,y=.ref p/\(SqL K H p xs\/SqT K H p xs)/\a3i x=true/\xs.all a3i=true/\Q (.bl (if neg then !inV x xs else inV x xs)) H
theorem a0m:OpR X (compareOp .In) (rIn X.K false):=by
 intro pins s Z H x y v u Q I rx ry h
 obtain ⟨p,xs,rfl,hq,fx,fs,q⟩:=h;cases ry
 rcases hq with hq|hq
 .obtain ⟨its,r,pl,hz⟩:=I.list hq;refine SeqAt.in_listAt (eqU x) pl.isList (λw hw=>a3z rx fx r fs w (by simpa using hw)) ⟨.bl _,H,I,rfl,?_⟩
  rw [show its.toArray.any (eqU x)=its.any (eqU x) by simp,a6r r fs]
  exact q
 .obtain ⟨its,r,pl,hz⟩:=I.tuple hq;refine SeqAt.in_tupleAt (eqU x) pl (λw hw=>a3z rx fx r fs w (by simpa using hw)) ⟨.bl _,H,I,rfl,?_⟩
  rw [show its.toArray.any (eqU x)=its.any (eqU x) by simp,a6r r fs]
  exact q
theorem a1x:OpR X (compareOp .NotIn) (rIn X.K true):=by
 intro pins s Z H x y v u Q I rx ry h
 obtain ⟨p,xs,rfl,hq,fx,fs,q⟩:=h;cases ry
 rcases hq with hq|hq
 .obtain ⟨its,r,pl,hz⟩:=I.list hq;refine SeqAt.notIn_listAt (eqU x) pl.isList (λw hw=>a3z rx fx r fs w (by simpa using hw)) ⟨.bl _,H,I,rfl,?_⟩
  rw [show its.toArray.any (eqU x)=its.any (eqU x) by simp,a6r r fs]
  exact q
 .obtain ⟨its,r,pl,hz⟩:=I.tuple hq;refine SeqAt.notIn_tupleAt (eqU x) pl (λw hw=>a3z rx fx r fs w (by simpa using hw)) ⟨.bl _,H,I,rfl,?_⟩
  rw [show its.toArray.any (eqU x)=its.any (eqU x) by simp,a6r r fs]
  exact q
theorem ab1:CallR X (.builtin "len") (λxs H Q=>∃p ys,xs=[.ref p]/\(SqL X.K H p ys\/SqT X.K H p ys)/\Q (.int ys.length) H):=by
 intro pins s Z H xs us Q I r h
 obtain ⟨p,ys,rfl,hq,q⟩:=h;obtain ⟨u,rfl,rx⟩:=vals1 r;cases rx
 have hn:=a6n
 rcases hq with hq|hq
 .obtain ⟨its,r',pl,hz⟩:=I.list hq;have hlen:=r'.length;exact Calls.call_len_list pl.isList (by simp only [aL]<;>omega) ⟨.int ys.length,H,I.tok _,⟨s.toks+1,by rw [aL,hlen]⟩,q⟩
 .obtain ⟨its,r',pl,hz⟩:=I.tuple hq;have hlen:=r'.length;exact len_tuple pl (by simp only [aL]<;>omega) ⟨.int ys.length,H,I.tok _,⟨s.toks+1,by rw [aL,hlen]⟩,q⟩
theorem ab2:CallR X (.builtin "len") (λxs H Q=>∃z,xs=[.str z]/\z.length<=sizeLine/\Q (.int z.length) H):=by
 intro pins s Z H xs us Q I r h
 obtain ⟨z,rfl,hz,q⟩:=h;obtain ⟨u,rfl,t,rfl⟩:=vals1 r;have hn:=a6n;exact len_str (by omega) ⟨.int z.length,H,I.tok _,⟨_,rfl⟩,q⟩
theorem CallR.or(h:CallR X f r)(h':CallR X f r'):CallR X f (λxs H Q=>r xs H Q\/r' xs H Q):=by
 intro pins s Z H xs us Q I rs q
 rcases q with q|q
 .exact h pins s Z H xs us Q I rs q
 .exact h' pins s Z H xs us Q I rs q
theorem uv:CallR X (.type "tuple") (λxs H Q=>∃p ys,xs=[.ref p]/\((SqL X.K H p ys/\∀l,H l=none->Q (.ref l) (upd H l (.tup ys)))\/(SqT X.K H p ys/\Q (.ref p) H))):=by
 intro pins s Z H xs us Q I r h
 obtain ⟨p,ys,rfl,h⟩:=h;obtain ⟨u,rfl,rx⟩:=vals1 r;cases rx
 rcases h with ⟨hq,q⟩|⟨hq,q⟩
 .obtain ⟨its,r',pl,hz⟩:=I.list hq;have hlen:=r'.length;refine call_tuple_list pl.isList (λh' kp=>?_) (by simp only [aL]<;>omega)
  have I1:Inv X pins Z H {s with heap:=h' }:=I.kept (t':=s.toks) kp
  have I2:Inv X pins Z (upd H h'.objs.size (.tup ys)) {s with heap:=h'.push {cls:=.type "tuple",data:=.seq its.toArray} } :=
   I1.laid (t':=s.toks) (λb o e=>ai _ e) (aA _) (show ObjOk X.prog X.w _ _ _ (.tup ys) from ⟨hz,its,r',IsTup.new _ _⟩)
  exact ⟨.ref h'.objs.size,_,I2,rfl,q _ (I1.hok.fresh (aA _))⟩
 .obtain ⟨its,r',pl,hz⟩:=I.tuple hq;exact call_tuple_same pl ⟨.ref p,H,I,rfl,q⟩
def tyV(K:PySem.W.Frag)(T:String)(x:V)(H:Hp):Prop:=match x with
 |.str _=>T = "str"
 |.int _=>T = "int"
 | .ref p=>(T = "list"/\∃xs,SqL K H p xs)\/(T = "tuple"/\∃o,K.lookup p=some o/\o.cls=.type "tuple"/\o.dict=none) \/
   (T = "dict"/\((∃kvs,H p=some (.dK kvs))\/∃kvs,H p=some (.dT kvs)))\/(T = "set"/\∃S n,H p=some (.set S n))
 |_=>False
theorem aou(I:Inv X pins Z H s)(r:RelV x v)(ty:tyV X.K T x H) :
  s.TypeIs v T/\∀a,v=.ref a->∃ob,s.heap.get? a=some ob/\ob.dict=none:=by
 cases x with
 |str z =>
  obtain ⟨t,rfl⟩:=r
  cases (show T = "str" from ty)
  exact ⟨typeIs_str s z t,λ_ e=>nomatch e⟩
 |int i =>
  obtain ⟨t,rfl⟩:=r
  cases (show T = "int" from ty)
  exact ⟨typeIs_int s i t,λ_ e=>nomatch e⟩
 |ref p =>
  cases r
  rcases ty with ⟨rfl,xs,hq⟩|⟨rfl,o,hk,hc,hd⟩|⟨rfl,hk⟩|⟨rfl,S,n,hk⟩
  .obtain ⟨its,_,pl,_⟩:=I.list hq;refine ⟨pl.isList.typeIs,λa e=>?_⟩;cases e
   obtain ⟨o,n,e,c,hd,_⟩:=pl;exact ⟨o,e,hd⟩
  .refine ⟨⟨o,I.kIn p o hk,hc⟩,λa e=>?_⟩;cases e
   exact ⟨o,I.kIn _ o hk,hd⟩
  .have z:∃o,s.heap.get? p=some o/\o.ExactDict:=by
    rcases hk with ⟨kvs,hk⟩|⟨kvs,hk⟩
    .obtain ⟨_,_,_,_,o,_,_,e,ex,_⟩:=I.hok p _ hk;exact ⟨o,e,ex⟩
    .obtain ⟨_,_,_,_,o,_,_,e,ex,_⟩:=I.hok p _ hk;exact ⟨o,e,ex⟩
   obtain ⟨o,e,ex⟩:=z;refine ⟨⟨o,e,ex.1⟩,λa e2=>?_⟩;cases e2
   exact ⟨o,e,ex.2.1⟩
  .obtain ⟨o,_,_,_,e,ex,_⟩:=I.hok p _ hk;refine ⟨⟨o,e,ex.1⟩,λa e2=>?_⟩;cases e2
   exact ⟨o,e,ex.2.1⟩
 |_=>exact False.elim ty
def tBM(K:PySem.W.Frag)(T:String)(r:V->List V->Hp->VK->Prop)(to:TE)(t:TA):TE:=λZ H Q=>to Z H λx H1=>tyV K T x H1/\t Z H1 λxs H2=>r x xs H2 Q
variable{o e:Expr}{es:List Expr}{to:TE}{t:TA}{name:Str}{apos cpos:Pos}{T id:String}{r:V->List V->Hp->VK->Prop}
theorem ayu(pa:PlainAttrs T)(slot:Slot T name id)(hty:typeOf (.builtin id)=pure (.type "method_descriptor"))(hm:MtR X id r)(ho:PE X o to)(ha:PA X (e::es) t)
  (hbase:attributeBase o name X.env (eval o X.env)=eval o X.env:=by rfl)
  (hfew:((backTo cpos (starEach (e::es) X.env)).all (λx => !x.1) && (backToKw cpos (keywordEach [] X.env)).all (λx=>x.1.isSome)
   && decide ((e::es).length+([]:List Keyword).length+(if ([]:List Keyword).isEmpty then 0 else 1)<30))=true:=by rfl)
  (hline:(apos.endLine == cpos.line)=true:=by rfl) (hs:starEach (e::es) X.env=(false,eval e X.env)::starEach es X.env:=by rfl) (hplain:(backTo cpos (starEach es X.env)).any (·.1)=false:=by rfl) :
  PE X (.Call (.Attribute o name apos) (e::es) [] cpos) (tBM X.K T r to t):=by
 intro pins s Z H Q I h
 refine wpAny_Call_method_late hbase hfew hline rfl (thn (ho pins s Z H _ I h) λv s1 ⟨x,H1,I1,r1,ty,q1⟩=>?_);obtain ⟨h1,h2⟩:=aou I1 r1 ty;refine ⟨T,id,pa,slot,hty,h1,h2,?_⟩;have hA:=ha cpos pins s1 Z H1 _ I1 q1;rw [hs] at hA ⊢;refine Calls.callWith_builtin (by show (false || (backTo cpos (starEach es X.env)).any (·.1))=false;rw [hplain]<;>rfl) (Calls.evalArgs_plain ?_)
 exact thn hA λus s2 ⟨vs,H2,I2,r2,q2⟩=>hm pins s2 Z H2 x vs v us Q I2 r1 r2 q2
end
def MtM(X:Cx)(id:String)(r:V->List V->Hp->VK->Prop):Prop :=
 ∀(pins:List (Addr×Obj)) (s:Shared) (Z:St) (H:Hp) (x:V) (xs:List V) (v:Value) (us:List Value) (Q:VK),Inv X pins Z H s->RelV x v->Vals xs us->r x xs H Q->
  wpAny (model X.prog X.w) X.A (call (.builtin id) (v::us)) (EP X pins Z Q) X.xe s
theorem Vals.one:∀{x:V} {us:List Value},Vals [x] us->∃u,us=[u]/\RelV x u
 |_,_,.cons r .nil=>⟨_,rfl,r⟩
theorem Vals.reverse(h:Vals xs us):Vals xs.reverse us.reverse:=by
 induction h with
 |nil=>exact .nil
 |cons r t ih=>rw [eB,eB];exact Vals.append ih (.cons r .nil)
theorem Vals.rep(h:Vals xs us):∀k:Nat,Vals (List.replicate k xs).flatten (List.replicate k us).flatten
 |0=>.nil
 |k+1=>by
  rw [cH,cH,bb,bb];exact Vals.append h (Vals.rep h k)
theorem foldl_rep(its:List Value):∀(k:Nat) (acc:List Value),
  List.foldl (λx1 x2=>x1++x2) acc.toArray (List.replicate k its.toArray)=(acc++(List.replicate k its).flatten).toArray
 |0,acc=>by simp
 |k+1,acc=>by
  have e:acc.toArray++its.toArray=(acc++its).toArray:=by simp
  have e2:(acc++its)++(List.replicate k its).flatten=acc++(List.replicate (k+1) its).flatten:=by
   rw [cH,bb,cM]
  rw [<-e2,<-foldl_rep its k (acc++its),<-e,cH,dH]
section
variable{X:Cx}{pins:List (Addr×Obj)}{Z:St}{H:Hp}{s:Shared}{l b:Addr}{xs ys zs:List V}
theorem Inv.lset{its its':List Value}(I:Inv X pins Z H s)(hH:H l=some (.lst xs))
  (e:s.heap.get? l=some {cls:=.type "list",data:=.seq its.toArray n}) (hf:f its.toArray=its'.toArray) (hv:Vals ys its') (hz:ys.length<=sizeLine) :
  Inv X pins Z (upd H l (.lst ys)) {s with heap:=s.heap.update l (Obj.mapSeq f),toks:=t' }:=by
 have q:=PySem.IsL.update e f;rw [hf] at q;refine I.write (x:=l) (e:=l) (by rw [hH];exact trivial) (.inl rfl) (λb' u hb hu=>(bU s.heap (Obj.mapSeq f) (ee hb)).trans hu) ⟨_,q⟩ ?_
 exact ⟨hz,its',_,hv,q⟩
theorem Inv.lnew(I:Inv X pins Z H s)(hv:Vals ys its)(hz:ys.length<=sizeLine) :
  Inv X pins Z (upd H s.heap.objs.size (.lst ys)) {s with heap:=s.heap.push {cls:=.type "list",data:=.seq its.toArray},toks:=t' } :=
 I.laid (λ_ _ q=>ai _ q) (aA _) ⟨hz,its,0,hv,aJ _ rfl⟩
theorem Inv.fresh(I:Inv X pins Z H s):H s.heap.objs.size=none:=I.hok.fresh (aA _)
theorem Inv.lstM(I:Inv X pins Z H s)(hH:H l=some (.lst xs)):xs.length<=sizeLine/\∃(its:List Value) (n:Nat),Vals xs its/\xs.length=its.length/\s.heap.get? l=some {cls:=.type "list",data:=.seq its.toArray n}:=by
 obtain ⟨z,its,n,r,e⟩:=I.hok l _ hH;exact ⟨z,its,n,r,r.length,e⟩
theorem a97(h:n<=sizeLine):Builtin.List.listTooLong n=false:=by
 unfold Builtin.List.listTooLong;exact aY (by omega)
end
section
variable{X:Cx}
def ai7:V->List V->Hp->VK->Prop:=λx vs H Q=>∃l xs y,x=.ref l/\vs=[y]/\H l=some (.lst xs)/\xs.length<sizeLine/\Q .non (upd H l (.lst (xs++[y])))
theorem ab3:MtM X "list.append" ai7:=by
 intro pins s Z H x vs v us Q I rx rv h
 obtain ⟨l,xs,y,rfl,rfl,hH,hz,q⟩:=h;cases rx
 obtain ⟨u,rfl,ru⟩:=rv.one;obtain ⟨z,its,n,r,hl,e⟩:=I.lstM hH;refine gM F.slot_list_append ⟨_,e,rfl⟩ F.entry_list_append (F.args_list_append_2 _ _) (PySem.list_append l its.toArray n u (by rw [aL];omega)) ⟨e,?_⟩
 refine ⟨.non,_,I.lset (its':=its++[u]) hH e (by simp) (r.append (.cons ru .nil)) ?_,rfl,q⟩
 rw [av,aK];omega
theorem len_rep{α:Type}(xs:List α)(k:Nat):(List.replicate k xs).flatten.length=k*xs.length:=by
 induction k with
 |zero=>simp
 |succ k ih=>rw [cH,bb,av,ih,cZ,Nat.add_comm]
end
end L2
namespace Att
open PySem.W PySem.Calls PyProof.Rows
theorem a6s:∀(ns:List Int) (vs:List Value),WellAll P h vs (ns.map WData.int)->IntsAre vs ns:=by
 intro ns
 induction ns with
 |nil =>
  intro vs w
  rw [dD] at w;cases w
  exact .nil
 |cons n ns ih =>
  intro vs w
  rw [aT] at w
  cases w with
  |cons a b =>
   cases a
   exact .cons _ _ (ih _ b)
theorem ai8{l:OpenLaw}(hn:l.most=some n)
  (hpre:l.row.toRowW.claim.pre args=true) (hwl:WellAll P h vals args) :
  ∃a vs ns,vals=[Value.ref a]/\args=[WData.list (ns.map WData.int)]/\h.get? a=some {cls:=.type "list",data:=.seq vs.toArray}/\IntsAre vs ns/\ns.length<=n:=by
 have hsh:WShape.hasAll [] args [.list .int]=true:=(pre_splitW hpre).1;have hc:l.pre.holds [] {args:=args}=true:=(pre_splitW hpre).2;obtain ⟨d,r,rfl,h1,h2⟩:=hasAllW_cons hsh;obtain rfl:=hasAllW_nil h2;obtain ⟨xs,rfl,h3⟩:=hasW_list h1;obtain ⟨ns,rfl⟩:=items_int h3;have hlen:ns.length<=n:=by
  unfold OpenLaw.pre at hc;have h4:(WTm.not (.lt (.lit (.int (n:Int))) (.len (.arg 0)))).holds [] {args:=[.list (ns.map .int)]}=true:=by
   have h4:=(holds_andW hc).1;rw [hn] at h4;exact h4
  have h5:=condW_of h4 (w_not (w_lt w_lit (w_len_list (w_arg rfl))));rw [ax] at h5;refine Nat.le_of_not_lt λq=>?_;have q':(n:Int)<((ns.length:Nat):Int):=by omega
  first
   |(rw [c8 q'] at h5;exact absurd h5 (by decide))
   |(simp at h5;omega)
 cases hwl with
 |cons w1 w2 =>
  cases w2
  cases w1 with
  |list ho hall=>exact ⟨_,_,ns,rfl,rfl,ho,a6s ns _ hall,hlen⟩
theorem ai9(l:OpenLaw)(args:List WData):l.row.toRowW.claim.post args (.bool true) args=true :=
 postW_of (r:=l.row.toRowW) (X:=(true == true))
  (show WShape.has [] (.bool true) .bool=true by first|rfl|decide|simp [WShape.has,WShape.arms,WShape.armsAll])
  (show (WTm.eq .res (.lit (.bool true))).value [] {args:=args,res:=some (.bool true),after:=args}=some (.bool (true == true)) from w_eq_bool (w_res rfl) w_lit) rfl
theorem acp{l:OpenLaw}{d:DefRec}
  (hn:l.most=some n) (hdf:d.params.defaults=[])
  (call:∀(w:World) (s₀ s₁:Shared) (mg mb:Str->Option Value) (fa:Addr) (o:Obj) (pm cd doc:Value) (a:Addr) (vs:List Value) (ns:List Int),
   Ground q loose [] XP w s₀ mg mb s₁.heap->YP w s₁.heap->
   s₁.heap.get? fa=some o->o.data=.func (docDef d.name d.params d.body d.scope pm cd doc)->s₁.heap.CodeRec cd d.name->mg d.name=some (.ref fa)->
   s₁.heap.get? a=some {cls:=.type "list",data:=.seq vs.toArray}->IntsAre vs ns->ns.length<=n->s₁.gens = #[]->
   codeAny (model l.prog w) callerA (.call (.ref fa) ⟨[.ref a],[]⟩) (λr s'=>r=.ok (.ret (.bool true))/\OldK s₁.heap s'.heap/\s'.os=s₁.os/\AllBare s'.gens) s₁) :
  WalkO q loose XP YP l.row.toRowW d [] (λf vs=>PySem.call f vs):=by
 intro w s₀ s₁ mg mb G Y fa o pm cd doc dV kV ho hd hcd hD hmg hg args vals as hpre hlay hrd hwl hlo
 obtain rfl:dV=.none:=Dflts.none hD hdf
 obtain rfl:kV=.none:=Dflts.noKw hD
 obtain ⟨a,vs,ns,rfl,rfl,hobj,hints,hlen⟩:=ai8 hn hpre hwl;refine enter_call (gu (call w s₀ s₁ mg mb fa o pm cd doc a vs ns G Y ho (fd_plain hd) hcd hmg hobj hints hlen hg) λr s' hq=>?_);obtain ⟨rfl,h2,h3,h4⟩:=hq;exact ⟨.inl ⟨.bool true,.bool true,[],rfl,λ_=>rfl,.bool true,ai9 l _,λ_=>⟨List.Pairwise.nil,λ_ hm=>(nomatch hm)⟩⟩,h2,h3,h4⟩
end Att
namespace L2
open PyProof.Rows
theorem a6t:∀{vs:List Value} {ns:List Int},IntsAre vs ns->Vals (ns.map V.int) vs
 |_,_,.nil=>.nil
 |_,_,.cons n t h=>.cons ⟨t,rfl⟩ (a6t h)
def Only(H:Hp):Prop:=∀b,H b=none\/∃o xs,H b=some (.frz o (.lst xs))
theorem am9{K:PySem.W.Frag}{s₁:Shared}{vs:List Value}
  (KX:K.In s₁.heap) (hns:s₁.heap.Ns mainGlobals mg) (hb:s₁.heap.Ns builtinsNs mb) (hbb:∀x:Str,x ≠ "__name__"->mb x=bootBuiltins x) (hlim:s₁.heap.NoLimit) (hg:s₁.gens = #[])
  (ha:s₁.heap.get? a=some {cls:=.type "list",data:=.seq vs.toArray}) (hi:IntsAre vs ns) (hl:ns.length<=sizeLine) (hr:Room k callerA)
  (F:∀base:Heap,K.In base->base.Ns mainGlobals mg->FnOk P w K mg base CX k fa fd [x] sp) (hbind:∀(s:Shared) (u:Value),BindsTo s fd ⟨[u],[]⟩ [(x,u)])
  (hsp:∀H:Hp,Only H->SqL K H a (ns.map V.int)->sp [.ref a] H (λv _=>v=.bl true) λ_ _ _=>False)
  (hCX:∀H e s',CX [] H s₁ (λ_ _ _=>False) e s'->False) :
  codeAny (model P w) callerA (.call (.ref fa) ⟨[.ref a],[]⟩) (λr s'=>r=.ok (.ret (.bool true))/\OldK s₁.heap s'.heap/\s'.os=s₁.os/\AllBare s'.gens) s₁:=by
 have rv:=a6t hi;have lenV:=hi.length;have core:∀H:Hp,Only H->SqL K H a (ns.map V.int)->HOk P w H s₁.heap->(∀b,H b≠none->b=a)->(H a≠none->K.lookup a=none)->
   codeAny (model P w) callerA (.call (.ref fa) ⟨[.ref a],[]⟩) (λr s'=>r=.ok (.ret (.bool true))/\OldK s₁.heap s'.heap/\s'.os=s₁.os/\AllBare s'.gens) s₁:=by
  intro H hO hS hok hA hK
  have base_of:∀{b:Addr} {o:Obj},s₁.heap.get? b=some o->H b=none->(alz s₁.heap H).get? b=some o:=λe n=>am0 e n;have noA:∀{b:Addr} {o:Obj} {es:Array DictEntry} {ep:Nat},s₁.heap.get? b=some o->o.data=.dict es ep->H b=none:=λ{b o es ep} e d=>by
   cases q:H b with
   |none=>rfl
   |some u =>
    have e':b=a:=hA b (by rw [q];simp)
    subst e';rw [ha] at e;cases e
    have d':Data.seq vs.toArray _=Data.dict es ep:=d
    cases d'
  have nsK:∀{b:Addr} {m:Str->Option Value},s₁.heap.Ns b m->(alz s₁.heap H).Ns b m:=λ{b m} ⟨o,es,ep,e,d,r⟩=>⟨o,es,ep,base_of e (noA e d),d,r⟩;have hKb:K.In (alz s₁.heap H):=λb o e=>base_of (KX b o e) (by
   cases q:H b with
   |none=>rfl
   |some u =>
    have e':b=a:=hA b (by rw [q];simp)
    subst e';rw [hK (by rw [q];simp)] at e;cases e)
  have hM:Mod K mg (alz s₁.heap H):=⟨hKb,nsK hns,⟨mb,nsK hb,hbb⟩,let ⟨mc,h1,h2⟩:=hlim; ⟨mc,nsK h1,h2⟩⟩;have e0:Env0 P w K mg (alz s₁.heap H) callerA [] s₁ H:=⟨rfl,hM,λb o e=>apz e,iJ (ahp _ _),trivial,λb hb=>absurd (show b∈([]:List Addr) from hb) (by simp),hok,.of_eq hg⟩
  refine gu ((F _ hKb (nsK hns)).run callerA [] s₁ H ⟨[.ref a],[]⟩ [.ref a] [.ref a] _ _ hr e0 (hbind s₁ (.ref a)) (.cons rfl .nil) (hsp H hO hS)) λr s' h=>?_
  cases r with
  |error e=>exact (hCX H e s' h).elim
  |ok fl =>
   cases fl with
   |next=>exact False.elim h
   |brk=>exact False.elim h
   |cont=>exact False.elim h
   |ret u =>
    obtain ⟨v,H',os,bare,un,hok',r',q⟩:=h;have q':v=.bl true:=q;subst q';obtain rfl:u=Value.bool true:=r';refine ⟨rfl,OldK.of_keep λb o e=>?_,os,bare⟩
    cases q:H b with
    |none=>exact un.keep b o e q (by intro z;exact absurd (show b∈([]:List Addr) from z) (by simp)) (by simp)
    |some u =>
     rcases hO b with z|⟨ob,xs,z⟩
     .rw [q] at z;cases z
     .have z2:=un.frzs b ob _ z;obtain ⟨e1,_⟩:=hok b _ z;obtain ⟨e2,_⟩:=hok' b _ z2;rw [e] at e1;cases e1
      exact e2
 cases hk:K.lookup a with
 |some o =>
  have e:=KX a o hk;rw [ha] at e;cases e
  refine core (λ_=>none) (λ_=>.inl rfl) (.inr ⟨_,vs.toArray,_,hk,rfl,rfl,rfl,by rw [aL,lenV];exact hl,by simpa using rv⟩) (λb u z=>by have z':(none:Option HO)=some u:=z;cases z') (λb z=>absurd rfl z) λz=>absurd rfl z
 |none =>
  refine core (λb=>if b=a then some (.frz {cls:=.type "list",data:=.seq vs.toArray} (.lst (ns.map V.int))) else none) (λb=>?_) (.inl (.inr ⟨{cls:=.type "list",data:=.seq vs.toArray},aE rfl⟩)) (λb u z=>?_) (λb z=>?_) λ_=>hk
  .by_cases hb:b=a
   .exact .inr ⟨_,_,aE hb⟩
   .exact .inl (aS hb)
  .by_cases hb:b=a
   .have z':=(aE hb).symm.trans z
    cases z'
    subst hb;exact ⟨ha,by rw [ax];exact hl,vs,_,rv,ha⟩
   .have z':=(aS hb).symm.trans z
    cases z'
  .by_cases hb:b=a
   .exact hb
   .exact absurd (aS hb) z
theorem aqm{l:PySem.W.OpenLaw}{n k:Nat}{q:Program}{loose:List Str}{XP:(Str->Option Value)->Heap->Prop}{YP:World->Heap->Prop}{d:DefRec}{K:Params->PySem.W.Frag}{CX:World->CXT}{sp:World->Sp}{x:Str}
  (hn:l.most=some n) (hn2:n<=sizeLine) (hdf:d.params.defaults=[]) (hr:Room k callerA)
  (hY:∀(w:World) (h:Heap),YP w h->(K w.params).In h)
  (F:∀(w:World) (mg:Str->Option Value) (fa:Addr) (h:Heap),(K w.params).In h->h.Ns mainGlobals mg->mg d.name=some (.ref fa)->
   ∃fd:FuncData,(∀(s:Shared) (u:Value),BindsTo s fd ⟨[u],[]⟩ [(x,u)]) /\
    ∀base:Heap,(K w.params).In base->base.Ns mainGlobals mg->FnOk l.prog w (K w.params) mg base (CX w) k fa fd [x] (sp w))
  (hsp:∀(w:World) (H:Hp) (a:Addr) (ns:List Int),ns.length<=n->Only H->SqL (K w.params) H a (ns.map V.int)->sp w [.ref a] H (λv _=>v=.bl true) λ_ _ _=>False)
  (hCX:∀(w:World) (H:Hp) (s:Shared) (e:Value) (s':Shared),CX w [] H s (λ_ _ _=>False) e s'->False) :
  PySem.W.WalkO q loose XP YP l.row.toRowW d [] (λf vs=>PySem.call f vs):=by
 refine Att.acp hn hdf λw s₀ s₁ mg mb fa o pm cd doc a vs ns G Y ho hd hcd hmg hobj hints hlen hg=>?_;have KX:=hY w _ Y;obtain ⟨fd,hb,hF⟩:=F w mg fa _ KX G.T.g hmg;exact am9 KX G.T.g G.T.b G.T.builtins G.T.nolimit hg hobj hints (aW hlen hn2) hr hF hb (λH hO hS=>hsp w H a ns hlen hO hS) λH e s'=>hCX w H s₁ e s'
noncomputable def a3j(s:Stmt):Arguments:=match s with
 |.FunctionDef _ a _ _ _ _ _ _ _ _=>a
 |_=>{posonlyargs:=[],args:=[],vararg:=none,kwonlyargs:=[],kw_defaults:=[],kwarg:=none,defaults:=[]}
def yw(s:Stmt):List Stmt:=match s with
 |.FunctionDef _ _ b _ _ _ _ _ _ _=>b
 |_=>[]
noncomputable def dj(s:Stmt):Scope:=match s with
 |.FunctionDef _ _ _ _ _ _ sc _ _ _=>sc
 |_=>{kind:=.function,names:=[],isGenerator:=false,isCoroutine:=false}
abbrev CX0:CXT:=λ_ _ _ _ _ _=>False
abbrev E0:XK:=λ_ _ _=>False
theorem aus:ae8 CX0 X E0:=λ_ _ _ _ _ _ _ h=>h.elim
structure Fun (K:PySem.W.Frag) (x qual:Str) (st:Stmt) (f:Addr) (fd:FuncData):Prop where
 ex:∃(oc:Value) (od:Option Addr) (kV doc pm:Value) (an:Option Addr) (cdv ct:Value) (osl:Array (Option Value)),
  fd=PySem.W.fnOf x qual (a3j st) (yw st) (dj st) .none kV doc pm an cdv ct/\K.lookup f=some ⟨oc,od,.func fd,osl⟩/\PySem.W.codeIn K cdv qual=true
 kp:PySem.W.keepIn K (.ref f)=true
section
variable{P:Program}{w:World}{K:PySem.W.Frag}{mg:Str->Option Value}{base:Heap}
theorem Fun.ok{x qual:Str}{st:Stmt}{f:Addr}{fd:FuncData}{N ps:List Str}{k:Nat}{sp:Sp}(F:Fun K x qual st f fd)(S:FnScope N ps (dj st))(len:∀vs H Q E,sp vs H Q E->vs.length=ps.length)
  (hbody:∀(cdv:Value) (A:Around) (outer:List Env) (s:Shared) (H:Hp) (vs:List V) (Q:VK) (E:XK),Room k (A.deeper (envOfC qual (dj st) s.heap.objs.size f cdv))->sp vs H Q E->
   ∃t,PSs (alo CX0 P w K mg base N qual (dj st) f cdv A outer s H E).nox (yw st) t/\t {nx:=λ_ H'=>Q .non H',rt:=Q} (start N vs) H):FnOk P w K mg base CX0 (k+1) f fd ps sp:=by
 obtain ⟨oc,od,kV,doc,pm,an,cdv,ct,osl,rfl,lk,hcd⟩:=F.ex;refine ayp lk hcd S len λA outer s H vs Q E hr hsp=>?_;obtain ⟨t,h,q⟩:=hbody cdv A outer s H vs Q E hr hsp;exact ⟨t,h.nox,q⟩
theorem Fun.binds{x qual:Str}{st:Stmt}{f:Addr}{fd:FuncData}{ps:List Str}(F:Fun K x qual st f fd)
  (h:∀(kV doc pm:Value) (an:Option Addr) (cdv ct:Value) (us:List Value),us.length=ps.length->bindArgs (PySem.W.fnOf x qual (a3j st) (yw st) (dj st) .none kV doc pm an cdv ct) ⟨us,[]⟩=pure (ps.zip us)):Binds K fd ps []:=by
 obtain ⟨oc,od,kV,doc,pm,an,cdv,ct,osl,rfl,lk,hcd⟩:=F.ex;exact .all (h kV doc pm an cdv ct)
theorem aut{x qual:Str}{st:Stmt}{f:Addr}{oc:Value}{od an:Option Addr}{osl:Array (Option Value)}{kV doc pm cdv ct:Value}(l:K.lookup f=some ⟨oc,od,.func (PySem.W.fnOf x qual (a3j st) (yw st) (dj st) .none kV doc pm an cdv ct),osl⟩)
  (c:PySem.W.codeIn K cdv qual=true) (k:PySem.W.keepIn K (.ref f)=true):Fun K x qual st f (PySem.W.fnOf x qual (a3j st) (yw st) (dj st) .none kV doc pm an cdv ct):=⟨⟨oc,od,kV,doc,pm,an,cdv,ct,osl,rfl,l,c⟩,k⟩
end
def Same(H H':Hp):Prop:=∀b o,H b=some o->H' b=some o
theorem Same.seq{K:PySem.W.Frag}{H H':Hp}{a:Addr}{xs:List V}(e:Same H H')(h:SqL K H a xs):SqL K H' a xs:=by
 rcases h with (h|⟨o,h⟩)|h
 .exact .inl (.inl (e _ _ h))
 .exact .inl (.inr ⟨o,e _ _ h⟩)
 .exact .inr h
section
variable{κ:Type}[DecidableEq κ]
theorem RelO.getD{o:Option V}{u:Option Value}{d:V}{d':Value}(r:RelO o u)(rd:RelV d d'):RelV (o.getD d) (u.getD d'):=by
 cases o with
 |none=>cases u with
  |none=>exact rd
  |some _=>exact (show False from r).elim
 |some _=>cases u with
  |none=>exact (show False from r).elim
  |some _=>exact r
end
end L2
set_option maxHeartbeats 4000000
namespace L2
open PyProof.Rows
section
variable{X:Cx}
theorem a98:OpR X (compareOp .Is) (λx y H Q=>∃i j,x=.bl i/\y=.bl j/\Q (.bl (i == j)) H):=by
 intro pins s Z H x y v u Q I rx ry h
 obtain ⟨i,j,rfl,rfl,q⟩:=h;cases rx
 cases ry
 exact is_bool (a5p I q rfl)
theorem acq:OpR X (compareOp .IsNot) (λx y H Q=>∃i j,x=.bl i/\y=.bl j/\Q (.bl (i != j)) H):=by
 intro pins s Z H x y v u Q I rx ry h
 obtain ⟨i,j,rfl,rfl,q⟩:=h;cases rx
 cases ry
 exact isnot_bool (a5p I q rfl)
theorem a6u:OpR X (compareOp .LtE) (λx y H Q=>∃i j,x=.str i/\y=.str j/\Q (.bl (!decide (j.cps.toList<i.cps.toList))) H):=by
 intro pins s Z H x y v u Q I rx ry h
 obtain ⟨i,j,rfl,rfl,q⟩:=h;obtain ⟨t,rfl⟩:=rx;obtain ⟨t',rfl⟩:=ry;exact PySem.P.le_str (a5p I q rfl)
noncomputable def a4v{α:Type}(xs:List α)(lo hi:Option Int):List α:=(xs.drop (HT.sIx xs.length 0 lo)).take (HT.sIx xs.length xs.length hi-HT.sIx xs.length 0 lo)
def ayv:V->Option Int->Option Int->Hp->VK->Prop:=λx lo hi H Q=>∃z,x=.str z/\z.length<=sizeLine/\Q (.str ⟨(a4v z.cps.toList lo hi).toArray⟩) H
theorem auu(lo hi:Option Int)(n:Nat):Builtin.Str.strSliceIndices lo hi 1 n=(List.range (HT.sIx n n hi-HT.sIx n 0 lo)).map λk=>HT.sIx n 0 lo+k:=by
 have e1:Builtin.Str.strSliceIndices lo hi 1 n=sliceRange ((HT.sIx n 0 lo:Nat):Int) ((HT.sIx n n hi:Nat):Int) 1:=by
  unfold Builtin.Str.strSliceIndices;dsimp only
  congr 1
  .cases lo with
   |none=>simp [HT.sIx]
   |some i=>simp only [HT.sIx,show (1:Int) > 0 by decide,db];split<;>omega
  .cases hi with
   |none=>simp [HT.sIx]
   |some i=>simp only [HT.sIx,show (1:Int) > 0 by decide,db];split<;>omega
 rw [e1];exact sliceRange_one _ _
theorem auv{α:Type}(xs:List α)(a:Nat):∀k,a+k<=xs.length->((List.range k).map λj=>a+j).filterMap (xs[·]?)=(xs.drop a).take k
 |0,_=>by simp
 |k+1,h=>by
  rw [iK,cI,List.filterMap_append,auv xs a k (by omega)]
  have hk:a+k<xs.length:=by omega
  rw [List.take_succ]
  congr 1
  simp [List.getElem?_drop,hk]
theorem auw:SlR X ayv:=by
 intro pins s Z H x v vl vu lo hi sl Q I rx hs pl pu h
 obtain ⟨z,rfl,hz,q⟩:=h;obtain ⟨t,rfl⟩:=rx;refine ⟨"str",_,PyProof.Rows.slot_str_getitem.lookup,typeIs_str s z t,?_⟩;have hl:z.cps.toList.length=z.length:=by simp [Str.length]
 have fin:∀(l u:Option (Int×Tok)),vl=partValue l->vu=partValue u->l.map (·.1)=lo->u.map (·.1)=hi->wpAny (model X.prog X.w) X.A (getItem (.str z t) (.ref sl)) (EP X pins Z Q) X.xe s:=by
  intro l u e1 e2 e3 e4
  subst e1 e2;refine wpAny_getItem_str_slice (l:=l) (u:=u) (st:=none) hs rfl ?_;have hp:slicePicked z l u none=(List.range (HT.sIx z.length z.length hi-HT.sIx z.length 0 lo)).map λk=>HT.sIx z.length 0 lo+k:=by
   unfold slicePicked;rw [e3,e4];exact auu lo hi z.length
  have hb1:HT.sIx z.length z.length hi<=z.length:=HT.ai3 _ _ (aA _) _;have hb2:HT.sIx z.length 0 lo<=z.length:=HT.ai3 _ _ (bq _) _;unfold sliceMade
  split
  .rename_i c;simp only [cf,gN] at c;obtain ⟨_,c⟩:=c;rw [hp,ax,aF] at c;have e:(⟨(a4v z.cps.toList lo hi).toArray⟩:Str)=z:=by
    unfold a4v;rw [hl];have z1:HT.sIx z.length 0 lo=0:=by omega
    have z2:HT.sIx z.length z.length hi=z.length:=by omega
    rw [z1,z2,fh,gz,bV (by omega)]
   rw [e] at q;exact ⟨.str z,H,I,⟨_,rfl⟩,q⟩
  .have e:(⟨(a4v z.cps.toList lo hi).toArray⟩:Str)=⟨((slicePicked z l u none).filterMap (z.cps[·]?)).toArray⟩:=by
    rw [hp];unfold a4v;rw [hl]
    by_cases hc:HT.sIx z.length 0 lo<=HT.sIx z.length z.length hi
    .rw [<-auv z.cps.toList _ _ (by omega)]
     simp only [Array.getElem?_toList]
    .rw [show HT.sIx z.length z.length hi-HT.sIx z.length 0 lo=0 by omega]
     simp
   rw [e] at q;refine ⟨?_,.str _,H,I.tok _,⟨_,rfl⟩,q⟩;rw [<-e];show (a4v z.cps.toList lo hi).toArray.size<=sizeLine;rw [aL];unfold a4v;rw [bg,bN,hl];omega
 cases pl with
 |none=>cases pu with
  |none=>exact fin none none rfl rfl rfl rfl
  |int j t'=>exact fin none (some (j,t')) rfl rfl rfl rfl
 |int i t'=>cases pu with
  |none=>exact fin (some (i,t')) none rfl rfl rfl rfl
  |int j t''=>exact fin (some (i,t')) (some (j,t'')) rfl rfl rfl rfl
theorem um:CallR X (.builtin "isinstance") (λxs H Q=>∃x T t b,xs=[x,.ty T]/\TyOf X.K H x t/\PySem.W.kitOne X.K t (.type T)=some b/\Q (.bl b) H):=by
 intro pins s Z H xs us Q I r h
 obtain ⟨x,T,t,b,rfl,ty,e,q⟩:=h;obtain ⟨u,w',rfl,rx,rt⟩:=vals2 r;cases rt
 exact ai1 I rx ty e λtk=>⟨.bl b,H,I.tok tk,rfl,q⟩
def a1r(x:Str):List V:=x.cps.toList.map λc=>V.str ⟨#[c]⟩
theorem agb(h:ItemsOf (SignAt x) acc x.cps.size):Vals (a1r x) acc.toList:=by
 obtain ⟨hs,ha⟩:=h;have key:∀(cs:List Nat) (us:List Value),us.length=cs.length->(∀(j:Nat) (v:Value),us[j]? = some v->∃c u,cs[j]? = some c/\v=.str ⟨#[c]⟩ u)->Vals (cs.map λc=>V.str ⟨#[c]⟩) us:=by
  intro cs
  induction cs with
  |nil=>intro us hl _;cases us with|nil=>exact .nil|cons _ _=>simp at hl
  |cons c cs ih =>
   intro us hl hp
   cases us with
   |nil=>simp at hl
   |cons u us =>
    refine .cons ?_ (ih us (by simpa using hl) λj v e=>hp (j+1) v (by simpa using e))
    obtain ⟨c',t,e1,e2⟩:=hp 0 u rfl;simp at e1;subst e1;exact ⟨t,e2⟩
 refine key _ _ (by simp [hs]) λj v e=>?_
 obtain ⟨c,u,e1,e2⟩:=ha j v (by simpa using e)
 exact ⟨c,u,by simpa using e1,e2⟩
theorem wy(hc:X.calm=true):CallR X (.type "tuple") (λxs H Q=>∃z,xs=[.str z]/\z.length<=sizeLine/\∀l,H l=none->Q (.ref l) (upd H l (.tup (a1r z)))):=by
 intro pins s Z H xs us Q I r h
 obtain ⟨z,rfl,hz,q⟩:=h;obtain ⟨u,rfl,t,rfl⟩:=vals1 r;refine PySem.call_tuple_str (I.ok.hd hc) z t (λh' tk acc kp hi=>?_) (by simpa [Str.length] using hz)
 have I1:Inv X pins Z H {s with heap:=h',toks:=tk}:=I.kept kp
 have I2:Inv X pins Z (upd H h'.objs.size (.tup (a1r z))) {s with heap:=h'.push {cls:=.type "tuple",data:=.seq acc},toks:=tk} :=
  I1.laid (t':=tk) (λb o e=>ai _ e) (aA _) (show ObjOk X.prog X.w _ _ _ (.tup (a1r z)) from ⟨by simpa [a1r,Str.length] using hz,acc.toList,agb hi,by simpa using IsTup.new h' acc⟩)
 exact ⟨.ref h'.objs.size,_,I2,rfl,q _ (I1.hok.fresh (aA _))⟩
end
noncomputable def Its(x:Str):It:=⟨λi _=>i<x.cps.size,λi H v H'=>H'=H/\∃c,x.cps.toList[i]? = some c/\v=.str ⟨#[c]⟩,λi _=>i=x.cps.size⟩
theorem aea{P:Program}{w:World}{K:PySem.W.Frag}{tg:Expr}(it:Addr)(x:Str)(t:Tok)(ty:String)
  (hty:["enumerate","zip","dict_itemiterator","dict_reverseitemiterator","odict_iterator","itertools.zip_longest","itertools.pairwise"].contains ty=false)
  (W:∀A':Around,A'.handled=none->Walks P w A' it [it] [it] x.cps.size (SignAt x) (λi h=>h.IsStrIter it ty x t i))
  (slf:∀(A:Around) (i:Nat) (s:Shared) (Q:Value->Shared->Prop) (E:Value->Shared->Prop),s.heap.IsStrIter it ty x t i->Q (.ref it) s->wpAny (model P w) A (pyIter (.ref it)) Q E s) :
  Turn P w K tg (Its x) [it] it (λi h=>h.IsStrIter it ty x t i) where
 mem:=by simp
 obj:=λi h st b hb=>by
  have e:b=it:=by simpa using hb
  subst e;obtain ⟨o,e,c,d⟩:=st;exact ⟨o,e,λv z=>by rw [d] at z;cases z⟩
 keep:=λi h h' st k=>by
  obtain ⟨o,e,c,d⟩:=st;exact ⟨o,k it (by simp) o e,c,d⟩
 item:=by
  intro X hP hw hK hc i pins s Z H E I hf st hg
  subst hP hw hK;obtain ⟨f0,f1,f2,f3,f4,f5⟩:=hf it (by simp)
  refine (W X.A (I.ok.hd hc)).item i s _ _ hg st λv h' tk hv st' kk=>?_;obtain ⟨c,u,hx,rfl⟩:=hv;have I1:Inv X pins Z H {s with heap:=h',toks:=tk}:=I.turned (λb o hb e=>kk b o (by simpa using hb) e) f0 f1 f3 f4 f5
  obtain ⟨o,e,oc,d⟩:=id st';exact ⟨_,rfl,ahr (s:={s with heap:=h',toks:=tk}) e oc d hty ⟨.str ⟨#[c]⟩,H,I1,⟨_,rfl⟩,⟨rfl,c,by simpa using hx,rfl⟩,st',λb hb=>(hf b hb).1⟩⟩
 done:=by
  intro X hP hw hK hc i pins s Z H E I hf st hg
  subst hP hw hK;obtain ⟨f0,f1,f2,f3,f4,f5⟩:=hf it (by simp)
  have hg':i=x.cps.size:=hg;subst hg';exact (W X.A (I.ok.hd hc)).done s _ _ st λh' tk eb=>⟨rfl,I.turned (λb o hb e=>eb b o (by simpa using hb) e) f0 f1 f3 f4 f5⟩
 self:=slf
section
variable{X:Cx}{tg:Expr}
def b1h(tl:TE):TI:=λZ H R=>tl Z H λx H1=>∃z,x=.str z/\R (Its z) H1
theorem aov{l:Expr}{tl:TE}(hl:PE X l tl):PI X tg l (b1h tl):=by
 intro pins s Z H R I h
 refine thn (hl pins s Z H _ I h) ?_
 rintro v s1 ⟨x,H1,I1,r1,q1⟩
 obtain ⟨z,e,q⟩:=q1;subst e;obtain ⟨t,rfl⟩:=r1;have fp:∀b∈[s1.heap.objs.size],FpOk X pins H1 b:=λb hb=>by
  have e:b=s1.heap.objs.size:=by simpa using hb
  subst e;exact I1.fpOk (aA _) (I1.hok.fresh (aA _))
 cases ha:z.cps.all (· < 128)
 .exact wpAny_pyIter_wide ha ⟨s1.heap.objs.size,[s1.heap.objs.size],_,_,H1,rfl,I1.kept (t':=s1.toks) λb o e=>ai _ e,
   aea _ z t "str_iterator" (by decide) (λA' hA=>Walks.strWide hA _ z t) (λ_ _ _ _ _ st h=>wpAny_pyIter_striter_wide st h),⟨_,aJ _ rfl,rfl,rfl⟩,fp,q⟩
 .exact wpAny_pyIter_ascii ha ⟨s1.heap.objs.size,[s1.heap.objs.size],_,_,H1,rfl,I1.kept (t':=s1.toks) λb o e=>ai _ e,
   aea _ z t "str_ascii_iterator" (by decide) (λA' hA=>Walks.strAscii hA _ z t) (λ_ _ _ _ _ st h=>wpAny_pyIter_striter_ascii st h),⟨_,aJ _ rfl,rfl,rfl⟩,fp,q⟩
end
noncomputable def cxC(X:Cx)(N:List Str)(scope:Scope)(cl:List (Str×Addr))(C:Addr)(fp:List Addr)(s:Shared)(H:Hp):Cx where
 prog:=X.prog
 w:=X.w
 K:=X.K
 mg:=X.mg
 base:=X.base
 A:=X.A
 N:=N
 s₀:=s
 H₀:=H
 env:=compEnvC scope cl C X.env
 outer:=X.stack
 stack:=X.stack
 ex:=fp
 fn:=λ_=>false
 calm:=X.calm
 pn:=[]
 xe:=λ_ _=>False
structure CSc (X:Cx) (scope:Scope) (cl:List (Str×Addr)) (ts fr:List Str) (ix:List Nat):Prop where
 clos:closureFor scope X.env=pure cl
 kind:scope.kind=.function
 nocell:∀y∈scope.names,y.2≠.cell
 names:∀y∈scope.names,y.2=.local->scope.names.lookup y.1=some .local
 sub:∀y c,cl.lookup y=some c->X.env.cells.lookup y=some c
 has:∀y,((relabel scope X.env).names.lookup y=some .cell\/(relabel scope X.env).names.lookup y=some .free)->∃c,cl.lookup y=some c
 nofn:∀y∈ts,(relabel scope X.env).names.lookup y=some .local
 len:ix.length=fr.length
 vis:∀(j:Nat) (y:Str),fr[j]? = some y->∃i:Nat,ix[j]? = some i/\X.N[i]? = some y/\(X.env.kindOf y=some .cell\/X.env.kindOf y=some .free)/\((relabel scope X.env).names.lookup y=some .cell\/(relabel scope X.env).names.lookup y=some .free)
def Ext(a b:St):Prop:=b.length=a.length/\∀(i:Nat) v,a[i]? = some (some v)->b[i]? = some (some v)
def uo(nt:Nat)(ix:List Nat)(Z:St):St:=List.replicate nt none++ix.map λi=>(Z[i]?).join
def ama(J:It)(s0:St)(g:TG)(te:TE)(Q:VK)(H1:Hp):Prop:=∃W:Nat->Nat->List V->Hp->Prop,(∃m,W 0 m [] H1)/\∀i m ys H,W i m ys H->
 (J.stop i H/\∀p,H p=none->Q (.ref p) (upd H p (.lst ys))) \/
 (J.go i H/\ys.length<sizeLine/\∀x H',J.yld i H x H'->g x s0 H' λZ2 H2=>Ext s0 Z2/\te Z2 H2 λy H3=>∃m',m'<m/\W (i+1) m' (ys++[y]) H3)
def ab4(wi:TI)(s0:St->St)(g:TG)(te:TE):TE:=λZ H Q=>wi Z H λJ H1=>ama J (s0 Z) g te Q H1
def a99(J:It)(s0:St)(g:TG)(tc:TT)(te:TE)(Q:VK)(H1:Hp):Prop:=∃W:Nat->Nat->List V->Hp->Prop,(∃m,W 0 m [] H1)/\∀i m ys H,W i m ys H->
 (J.stop i H/\∀p,H p=none->Q (.ref p) (upd H p (.lst ys))) \/
 (J.go i H/\ys.length<sizeLine/\∀x H',J.yld i H x H'->g x s0 H' λZ2 H2=>Ext s0 Z2/\tc Z2 H2 λok H2'=>if ok=true then te Z2 H2' (λy H3=>∃m',m'<m/\W (i+1) m' (ys++[y]) H3) else ∃m',m'<m/\W (i+1) m' ys H2')
noncomputable def a3k(wi:TI)(s0:St->St)(g:TG)(tc:TT)(te:TE):TE:=λZ H Q=>wi Z H λJ H1=>a99 J (s0 Z) g tc te Q H1
theorem a6v(elt target iter cnd:Expr)(scope:Scope)(pos:Pos)(it acc:Value)(env:Env) :
  compTurn (.ListComp elt [⟨target,iter,[cnd],0⟩] scope pos) 0 it acc env=(standAt iter.pos>>=λ_=>pyNext it>>=λr=>match r with
   |none=>pure (.done .next)
   |some v=>letOwnedTupleGo target it v>>=λ_=>assign target env v>>=λ_=>isTrue cnd env (eval cnd env)>>=λok =>
    (if ok=true then (eval elt env>>=λx=>call (.builtin "list.append") [acc,x]>>=λ_=>pure ()) else pure ())>>=λ_ =>
     again (.compLoop (.ListComp elt [⟨target,iter,[cnd],0⟩] scope pos) 0 it acc env)):=by
 first
  |rfl
  |(unfold compTurn;simp only [cT];rfl)
  | (show (standAt iter.pos>>=λ_=>pyNext it>>=λr=>_)=_
     congr 1;funext _;congr 1;funext r
     cases r with
     |none=>rfl
     |some v =>
      show (letOwnedTupleGo target it v>>=λ_=>assign target env v>>=λ_=>_)=(letOwnedTupleGo target it v>>=λ_=>assign target env v>>=λ_=>_)
      congr 1;funext _;congr 1;funext _
      simp
      congr 1;funext ok
      cases ok with
      |false=>rw [aS aX,aS aX,pure_bind]
      |true =>
       rw [aE rfl,aE rfl,bind_assoc]
       congr 1;funext x
       rw [map_eq_pure_bind,bind_assoc]
       congr 1)
noncomputable def runC(cnd:Option Expr)(env:Env):Sem Bool:=match cnd with
 |none=>pure true
 |some c=>isTrue c env (eval c env)
def PTO(X:Cx)(cnd:Option Expr)(t:TT):Prop :=
 ∀(pins:List (Addr×Obj)) (s:Shared) (Z:St) (H:Hp) (Q:Bool->Hp->Prop),Inv X pins Z H s->t Z H Q->wpAny (model X.prog X.w) X.A (runC cnd X.env) (TP X pins Z Q) X.xe s
theorem a8a(elt target iter:Expr)(cnd:Option Expr)(scope:Scope)(pos:Pos)(it acc:Value)(env:Env) :
  compTurn (.ListComp elt [⟨target,iter,cnd.toList,0⟩] scope pos) 0 it acc env=(standAt iter.pos>>=λ_=>pyNext it>>=λr=>match r with
   |none=>pure (.done .next)
   |some v=>letOwnedTupleGo target it v>>=λ_=>assign target env v>>=λ_=>runC cnd env>>=λok =>
    (if ok=true then (eval elt env>>=λx=>call (.builtin "list.append") [acc,x]>>=λ_=>pure ()) else pure ())>>=λ_ =>
     again (.compLoop (.ListComp elt [⟨target,iter,cnd.toList,0⟩] scope pos) 0 it acc env)):=by
 cases cnd with
 |some c=>exact a6v ..
 |none =>
  rw [show (none:Option Expr).toList=[] from rfl,compTurn_list1]
  congr 1
theorem aia{cnd:Option Expr}{E:Value->Shared->Prop}(no:∀v s,E v s->False)(J:Nat->Shared->Prop)
  (step:∀m z,J m z->wpAny (model prog w) A (pyNext it) (λgot z1=>match got with
   |none=>R (.ok .next) z1
   |some v=>wpAny (model prog w) A (letOwnedTupleGo target it v) (λ_ z2=>wpAny (model prog w) A (assign target env v) (λ_ z3=>wpAny (model prog w) A (runC cnd env) (λok z3'=>if ok=true then wpAny (model prog w) A (eval elt env) (λx z4 =>
     wpAny (model prog w) A (call (.builtin "list.append") [acc,x]) (λ_ z5=>∃m',m'<m/\J m' z5) E z4)
     E z3' else ∃m',m'<m/\J m' z3') E z3) E z2) E z1) E z)
  (m:Nat) (j0:J m s):codeAny (model prog w) A (.compLoop (.ListComp elt [⟨target,iter,cnd.toList,0⟩] scope pos) 0 it acc env) R s:=by
 refine codeAny_loop rfl J (λm z hj=>(wpAny_noted ?_:wpAny _ _ ((compTurn (.ListComp elt [⟨target,iter,cnd.toList,0⟩] scope pos) 0 it acc env).onRaise _) _ _ z)) m j0;rw [a8a];refine af (de (af (bF (step m z hj) (λgot z1 h1=>?_) λ_ _ e=>(no _ _ e).elim)))
 match got,h1 with
 |none,h1=>exact ar h1
 |some v,h1 =>
  refine af (bF h1 (λ_ z2 h2=>af (bF h2 (λ_ z3 h3=>af (bF h3 (λok z3' h3'=>?_) λ_ _ e=>(no _ _ e).elim)) λ_ _ e=>(no _ _ e).elim)) λ_ _ e=>(no _ _ e).elim)
  match ok,h3' with
  |true,h3' =>
   rw [aE rfl] at h3';refine af (af (bF h3' (λx z4 h4=>?_) λ_ _ e=>(no _ _ e).elim));exact af (bF h4 (λ_ z5 h5=>ar (ar ⟨rfl,h5⟩)) λ_ _ e=>(no _ _ e).elim)
  |false,h3' =>
   rw [aS aX] at h3';exact af (ar (ar ⟨rfl,h3'⟩))
section
variable{X:Cx}
theorem ab5(S:CSc X scope cl ts fr ix)(I:Inv X pins Z H s)
  (hf:∀b∈fp,FpOk X pins H b) (hb:∀b∈fp,b<s.heap.objs.size) (hC:s.heap.objs.size<=C):(cxC X (ts++fr) scope cl C fp s H).Ok where
 mod:=I.ok.mod
 kind:=S.kind
 glob:=I.ok.glob
 blt:=I.ok.blt
 above:=hC
 inj:=λx y c h1 h2=>I.ok.inj x y c (S.sub x c h1) (S.sub y c h2)
 has:=S.has
 cab:=λ_ _ z=>nomatch z
 hd:=I.ok.hd
 frames:=I.ok.frames
 stk:=.inl rfl
 exf:=λb hb'=>⟨aV (aM (hb b hb') hC),λx c e=>(hf b hb').2.2.2.2.1 x c (S.sub x c e)⟩
 bs:=λb o e=>I.bs b o e
 bsz:=aW I.ok.bsz I.sz
 noex:=λb o e hb'=>by
  rcases (hf b hb').2.2.2.1 with z|z
  .exact I.ok.noex b o e z
  .exact absurd (aM (aG e) (aW I.ok.bsz z)) (bC _)
 exfs:=λb hb' z=>by
  rcases aC.mp (I.stkSub b z) with e|e
  .exact (hf b hb').2.1 e
  .exact (hf b hb').2.2.1 e
 funs:=I.stack
 frf:=λb hb'=>I.stkFree b hb'
theorem a8k:(uo nt ix Z).length=nt+ix.length:=by
 unfold uo;rw [av,cG,ax]
theorem aib{s4:Shared}(S:CSc X scope cl ts fr ix)(I:Inv X pins Z H s)
  (hf:∀b∈fp,FpOk X pins H b) (hb:∀b∈fp,b<s.heap.objs.size) (hC:s.heap.objs.size<=C)
  (k:∀b o,s.heap.get? b=some o->s4.heap.get? b=some o) (hn:s4.heap.Ns C m) (ho:s4.os=s.os) (hg:s4.gens=s.gens) :
  Inv (cxC X (ts++fr) scope cl C fp s H) [] (uo ts.length ix Z) H s4 where
 ok:=ab5 S I hf hb hC
 os:=ho
 bare:=by rw [hg];exact I.bare
 base:=Un.kept k
 loc:=by
  refine ⟨m,hn,λi x v e1 e2 e3=>?_⟩;have e1:(ts++fr)[i]? = some x:=e1
  by_cases hi:i<ts.length
  .unfold uo at e2;rw [aP (by simpa using hi),dB,aE hi] at e2
   cases e2
  .rw [aB (by omega)] at e1
   unfold uo at e2;rw [aB (by simpa using hi),cG,aN] at e2
   obtain ⟨j,h1,h2,h3,h4⟩:=S.vis _ x e1;rw [h1] at e2;have e2':(Z[j]?).join=some v:=bK e2;have e5:Z[j]? = some (some v):=by
    cases q:Z[j]? with
    |none=>rw [q] at e2';cases e2'
    |some o=>rw [q] at e2';simp at e2';rw [e2']
   obtain ⟨m0,_,hl⟩:=I.loc;have vis:Vis X.env.scope x:=h3.elim (λz=>.inr (.inl z)) λz=>.inr (.inr z);obtain ⟨u,ru,l⟩:=hl j x v h2 e5 vis;refine ⟨u,ru,?_⟩
   rcases l with ⟨z,_⟩|⟨_,c,hc,hcell⟩
   .rcases h3 with h3|h3<;>rw [h3] at z<;>cases z
   .obtain ⟨c',hc'⟩:=S.has x h4;have e6:c'=c:=bK ((S.sub x c' hc').symm.trans hc);subst e6;obtain ⟨o,ho,hd⟩:=hcell;exact .inr ⟨h4,c',hc',o,k _ _ ho,hd⟩
 cell:=λx c e=>by
  obtain ⟨v,o,ho,hd⟩:=I.cell x c (S.sub x c e);exact ⟨v,o,k _ _ ho,hd⟩
 free:=I.hok.fresh hC
 freeC:=λx c e=>I.freeC x c (S.sub x c e)
 pin:=λp hp=>absurd (show p∈([]:List (Addr×Obj)) from hp) (by simp)
 hok:=I.hok.kept k
 len:=by
  rw [a8k];show _=(ts++fr).length;rw [av,S.len]
theorem Inv.unpinned'(I:Inv X pins Z H s):Inv X [] Z H s:=I.pins_of λ_ hp=>nomatch hp
theorem comp_back{its:List Value}(I:Inv X pins Z H s)
  (hf:∀b∈fp,FpOk X pins H b) (hC:s.heap.objs.size<=C) (hacc:s.heap.objs.size<=acc) (hCa:C≠acc)
  (J:Inv (cxC X N scope cl C fp s H) [] Z' H' s') (hn:H' acc=none) (ha:s'.heap.get? acc=some {cls:=.type "list",data:=.seq its.toArray n}) (rv:Vals ys its) (hz:ys.length<=sizeLine) (sb:Heap.SameBut C s'.heap h') :
  Inv X pins Z (upd H' acc (.lst ys)) {s' with heap:=h' }:=by
 have k:∀b o,b≠C->s'.heap.get? b=some o->h'.get? b=some o:=λb o hb e=>sb.extBut b o hb e;have old:∀b o,s.heap.get? b=some o->b≠C/\b≠acc:=λb o e=>⟨aV (aM (aG e) hC),aV (aM (aG e) hacc)⟩;have u0:Un (frs X.stack) fp H H' s.heap s'.heap:=J.base;have fC:H' C=none:=J.free;have u:Un (frs X.stack) fp H (upd H' acc (.lst ys)) s.heap h':=by
  refine ⟨λb o e n' hb hx=>k b o (old b o e).1 (u0.keep b o e n' hb hx),λb o e n' hb hx=>?_,λb o e n' hx=>?_,λb o e hx=>?_,λb xs e=>?_,λb o v e=>?_,λb ps e=>?_⟩
  .obtain ⟨sl,e1⟩:=u0.slot b o e n' hb hx;exact ⟨sl,k b _ (old b o e).1 e1⟩
  .rw [jc (old b o e).2];exact u0.free b o e n' hx
  .obtain ⟨o',e1⟩:=u0.there b o e hx;exact ⟨o',k b _ (old b o e).1 e1⟩
  .rw [jc (gm (u0.tups b xs e) hn)];exact u0.tups b xs e
  .rw [jc (gm (u0.frzs b o v e) hn)];exact u0.frzs b o v e
  .obtain ⟨more,e1⟩:=u0.tbls b ps e;exact ⟨more,by rw [jc (gm e1 hn)];exact e1⟩
 have hok:HOk X.prog X.w (upd H' acc (.lst ys)) h':=λb o e=>by
  by_cases hb:b=acc
  .subst hb;rw [km] at e;cases e
   exact ⟨hz,its,n,rv,k _ _ (ee hCa) ha⟩
  .rw [jc hb] at e;refine (J.hok b o e).stay (λc v hc q=>k c v ?_ q) (λc q=>by rw [jc (gm q hn)];exact q) λc xs q=>by rw [jc (gm q hn)];exact q
   rcases hc with z|z
   .rw [z];exact gm e fC
   .exact gm z fC
 have J':=I.call (g':=s'.gens) (t':=s'.toks) (d':=s'.drawn) (ch:=fp) u hok J.bare λb hb=>⟨(hf b hb).2.2.2.1,(hf b hb).2.1,(hf b hb).2.2.2.2.1,(hf b hb).2.2.2.2.2⟩;have eo:s'.os=s.os:=J.os;obtain ⟨hp,g,d,t,o⟩:=s';have eo':o=s.os:=eo;subst eo';exact J'
def a3l(X:Cx)(pins:List (Addr×Obj))(Z:St)(use:Option (Value->Sem Unit))(Q:VK)(Qf:Value->Shared->Prop):Prop :=
 ∀(acc C:Addr) (s6:Shared) (H6:Hp) (m6:Str->Option Value),s6.heap.Ns C m6->FpOk X pins H6 C->(∀h',Heap.SameBut C s6.heap h'->Inv X pins Z H6 {s6 with heap:=h' })->Q (.ref acc) H6->
  compPost (model X.prog X.w) X.A X.xe use Qf (.ref acc) C (.ok .next) s6
theorem aeb:a3l X pins Z none Q (EP X pins Z Q):=λacc C s6 H6 m6 hn _ k q=>⟨m6,hn,λh' sb=>⟨.ref acc,H6,k h' sb,rfl,q⟩⟩
theorem a9a{D:Ends}(hN:X.N.Nodup)(hi:X.N[i]? = some x)(hx:Loc X.env.scope x)(hf:X.fn x=true\/X.env.scope.names.lookup x=some .local) :
  a3l X pins Z (some (assign (.Name x pos') X.env)) (λv H1=>a1d i v Z H1 D.nx) (λ_ s'=>SP X pins D .next s'):=by
 intro acc C s6 H6 m6 hn fp k q
 obtain ⟨f1,f2,f3,f4,f5,f6⟩:=fp;have I6:Inv X pins Z H6 s6:=k s6.heap (eR _ _);refine wpAny_assign_Name (aat (v:=.ref acc) I6 hN hi hx rfl (λs' I' ⟨a,sb,ha⟩=>⟨m6,hn.sameBut sb ?_,λh' sb'=>⟨_,H6,I'.turned (t':=s'.toks) (it:=C) (λb o hb e=>sb'.extBut b o hb e) f1 f2 f4 f5 f6,q⟩⟩) hf)
 rcases ha with ha|ha
 .rw [ha];exact f2
 .exact λz=>f5 x a ha z.symm
theorem ab6{Y:Cx}{cnd:Option Expr}{N it:Addr}{fp:List Addr}{tn:Nat->Heap->Prop}{J:It}{Z0:St}{H2:Hp}{s4:Shared}{W:Nat->Nat->List V->Hp->Prop}{Q:VK}(hc:Y.calm=true)(no:∀v s,Y.xe v s->False)(hp0:Y.pn=[])(T:Turn Y.prog Y.w Y.K tg J fp it tn)
  (stat:∀{H':Hp},(∀b∈fp,H' b=none)->∀b∈fp,FpOk Y [] H' b) (statA:∀{H':Hp},H' N=none->FpOk Y [] H' N) (accF:N∉fp) (hg:PG Y tg g) (he:PE Y elt te) (ht:PTO Y cnd tc)
  (turn:∀i m ys H,W i m ys H->(J.stop i H/\∀p,H p=none->Q (.ref p) (upd H p (.lst ys)))\/(J.go i H/\ys.length<sizeLine/\∀x H',J.yld i H x H'->g x Z0 H' λZ2 H2=>Ext Z0 Z2/\tc Z2 H2 λok H2'=>if ok=true then te Z2 H2' (λy H3=>∃m',m'<m/\W (i+1) m' (ys++[y]) H3) else ∃m',m'<m/\W (i+1) m' ys H2'))
  (w0:W 0 m0 [] H2) (K0:Inv Y [] Z0 H2 s4) (st4:tn 0 s4.heap) (f0:∀b∈fp,H2 b=none) (fa:H2 N=none) (hacc:s4.heap.get? N=some {cls:=.type "list",data:=.seq ([]:List Value).toArray 0})
  (fin:∀s6 H6 ys its k,Inv Y [(N,{cls:=.type "list",data:=.seq its.toArray k})] Z0 H6 s6->H6 N=none->Vals ys its->ys.length<=sizeLine->(∀p,H6 p=none->Q (.ref p) (upd H6 p (.lst ys)))->R (.ok .next) s6) :
  codeAny (model Y.prog Y.w) Y.A (.compLoop (.ListComp elt [⟨tg,iter,cnd.toList,0⟩] scope pos) 0 (.ref it) (.ref N) Y.env) R s4:=by
 refine aia no (λn s'=>∃i Z' H' ys its k,Inv Y [] Z' H' s'/\Ext Z0 Z'/\tn i s'.heap/\(∀b∈fp,H' b=none)/\H' N=none /\
  s'.heap.get? N=some {cls:=.type "list",data:=.seq its.toArray k}/\Vals ys its/\ys.length<=sizeLine/\W i n ys H') ?_ m0
  ⟨0,_,H2,[],[],0,K0,⟨rfl,λ_ _ z=>z⟩,st4,f0,fa,hacc,.nil,bq _,w0⟩
 rintro n s5 ⟨i,Z5,H5,ys,its,k5,I5,x5,st5,fr5,fa5,ac5,rv5,hz5,w5⟩
 have I5':Inv Y [] Z0 H5 s5:=I5.weak x5.1.symm x5.2;obtain ⟨ob,hob⟩:∃ob:Obj,ob={cls:=.type "list",data:=.seq its.toArray k5}:=⟨_,rfl⟩;rw [<-hob] at ac5;have IP:Inv Y [(N,ob)] Z0 H5 s5:=I5'.pins_of λp hp=>by
  rw [aD.mp hp];obtain ⟨a0,a1,a2,_⟩:=statA fa5;exact ⟨ac5,a0,a1,a2,λv z=>by rw [hob] at z;cases z⟩
 have FB:∀b∈fp,FpOk Y [(N,ob)] H5 b:=λb hb=>by
  obtain ⟨b0,b1,b2,b3,b4,b5⟩:=stat fr5 b hb;refine ⟨b0,b1,b2,b3,b4,λp hp=>?_⟩;rw [hp0] at hp;rw [aD.mp hp];exact λz=>accF (by have z':N=b:=z;rw [z'];exact hb)
 rcases turn i n ys H5 w5 with ⟨stop,qn⟩|⟨go,hlt,step⟩
 .refine thn (T.done Y rfl rfl rfl hc i [(N,ob)] s5 _ H5 _ IP FB st5 stop) ?_
  rintro r s6 ⟨hr,I6⟩
  subst hr;rw [hob] at I6;exact fin s6 H5 ys its k5 I6 fa5 rv5 hz5 qn
 .refine thn (T.item Y rfl rfl rfl hc i [(N,ob)] s5 _ H5 _ IP FB st5 go) ?_
  rintro r s6 ⟨u,hr,h6⟩
  subst hr;refine thn h6 ?_
  rintro _ s7 ⟨x,H7,I7,r7,y7,st7,fr7⟩
  obtain ⟨ac7,fa7,_⟩:=I7.pin (N,ob) (by simp)
  have I7':Inv Y (xx (N::fp) s7.heap) Z0 H7 s7:=by
   show Inv Y ([]++xx (N::fp) s7.heap) _ _ _;refine Inv.pinned I7.unpinned' (λb hb=>?_) λb hb=>?_
   .rcases aC.mp hb with e|e
    .subst e;exact statA fa7
    .exact stat fr7 b e
   .rcases aC.mp hb with e|e
    .subst e;exact ⟨_,ac7,λv z=>by rw [hob] at z;cases z⟩
    .exact T.obj _ _ st7 b e
  have keep:∀{Z':St} {H9:Hp} {s9:Shared} {ps:List (Addr×Obj)},Inv Y (xx (N::fp) s7.heap) Z' H9 s9->(s9.heap.get? N=some ob/\H9 N=none)/\∀b∈fp,(∀o,s7.heap.get? b=some o->s9.heap.get? b=some o)/\H9 b=none:=λI9=>by
   refine ⟨?_,λb hb=>?_⟩
   .obtain ⟨z1,z2,_⟩:=I9.pin (N,ob) (aR _ (oh aI ac7));exact ⟨z1,z2⟩
   .obtain ⟨o,e,_⟩:=T.obj _ _ st7 b hb;obtain ⟨z1,z2,_⟩:=I9.pin (b,o) (aR _ (oh (ay _ hb) e));exact ⟨λo' e'=>by rw [e] at e';cases e';exact z1,z2⟩
  refine thn (hg _ s7 _ H7 x u _ I7' r7 (step x H7 y7)) ?_
  rintro _ s8 ⟨Z8,H8,I8,x8,q8⟩
  refine thn (ht _ s8 _ H8 _ I8 q8) ?_
  rintro ok s8' ⟨H8',I8',q8'⟩
  cases ok with
  |false =>
   rw [aS aX] at q8' ⊢;obtain ⟨m',hm',w9⟩:=q8';obtain ⟨⟨ac9,fa9⟩,k9⟩:=keep (ps:=[]) I8';exact ⟨m',hm',i+1,Z8,H8',ys,its,k5,I8'.unpinned',x8,T.keep _ _ _ st7 λb hb o e=>(k9 b hb).1 o e,λb hb=>(k9 b hb).2,fa9,by rw [ac9,hob],rv5,hz5,w9⟩
  |true =>
   rw [aE rfl] at q8' ⊢;refine thn (he _ s8' _ H8' _ I8' q8') ?_
   rintro yv s9 ⟨y,H9,I9,r9,m',hm',w9⟩
   obtain ⟨⟨ac9,fa9⟩,k9⟩:=keep (ps:=[]) I9;rw [hob] at ac9;have hl:=rv5.length;refine gM F.slot_list_append ⟨_,ac9,rfl⟩ F.entry_list_append (F.args_list_append_2 _ _) (PySem.list_append N its.toArray k5 yv (by rw [aL];omega)) ⟨ac9,?_⟩
   have q:=PySem.IsL.update ac9 (λa=>a.push yv);have qo:∀b o,b≠N->s9.heap.get? b=some o->(s9.heap.update N (Obj.mapSeq (λa=>a.push yv))).get? b=some o:=λb o hb e=>(bU s9.heap _ (ee hb)).trans e;have q':∃k,(s9.heap.update N (Obj.mapSeq (λa=>a.push yv))).get? N=some {cls:=.type "list",data:=.seq (its++[yv]).toArray k}:=⟨_,by rw [q];simp;rfl⟩
   obtain ⟨k9',q9⟩:=q';obtain ⟨a0,a1,a2,a3,a4,a5⟩:=statA fa9;refine ⟨m',hm',i+1,Z8,H9,ys++[y],its++[yv],k9',(I9.unpinned').turned qo a0 a1 a3 a4 a5,x8,T.keep _ _ _ st7 λb hb o e=>qo b o (λz=>accF (z ▸ hb)) ((k9 b hb).1 o e),λb hb=>(k9 b hb).2,fa9,q9,rv5.append (.cons r9 .nil),?_,w9⟩;rw [av,aK];omega
theorem a8l{cnd:Option Expr}(hc:X.calm=true)(S:CSc X scope cl ts fr ix)(hi:PI X tg iter wi)
  (hg:∀C fp s H,PG (cxC X (ts++fr) scope cl C fp s H) tg g) (he:∀C fp s H,PE (cxC X (ts++fr) scope cl C fp s H) elt te) (ht:∀C fp s H,PTO (cxC X (ts++fr) scope cl C fp s H) cnd tc) (hs:∀x,foldedSetIterable iter X.env x=pure x)
  (use:Option (Value->Sem Unit)) (I:Inv X pins Z H s) (h:a3k wi (uo ts.length ix) g tc te Z H Q) (fin:a3l X pins Z use Q Qf) :
  wpAny (model X.prog X.w) X.A (comprehension (.ListComp elt [⟨tg,iter,cnd.toList,0⟩] scope pos) scope X.env ppos (newList []) false (eval iter X.env) use) Qf X.xe s:=by
 refine fG (use:=use) rfl hs S.clos S.kind S.names (thn (hi pins s Z H _ I h) λv s1 h1=>thn h1 λitv s2 h2=>?_);obtain ⟨it,fp,tn,J,H2,e,I2,T,st2,f2,W,⟨m0,w0⟩,turn⟩:=h2;subst e;have hob:∀b∈fp,b<s2.heap.objs.size:=λb hb=>let ⟨o,e,_⟩:=T.obj _ _ st2 b hb;aG e;refine cA (wpAny_newFunctionEnv S.nocell (by intro y hy;simp at hy) (λh4 hns4 hsb4=>?_) S.kind)
 dsimp only at hns4 hsb4 ⊢
 generalize hH2:s2.heap.push {cls:=.type "list",dict:=none,data:=.seq ([]:List Value).toArray}=G at hns4 hsb4 ⊢
 have hCs:G.objs.size=s2.heap.objs.size+1:=by rw [<-hH2,cB]
 have hCle:s2.heap.objs.size<=G.objs.size:=by omega
 have hne:G.objs.size≠s2.heap.objs.size:=by omega
 have old:∀b o,s2.heap.get? b=some o->h4.get? b=some o:=λb o e=>by
  have hlt:=aG e;exact hsb4.extBut b o (aV (aM hlt hCle)) (ai _ (hH2 ▸ ai _ e))
 have hacc:h4.get? s2.heap.objs.size=some {cls:=.type "list",data:=.seq ([]:List Value).toArray 0} :=
  hsb4.extBut _ _ (ee hne) (ai _ (hH2 ▸ aJ _ rfl))
 have K0:Inv (cxC X (ts++fr) scope cl G.objs.size fp s2 H2) [] (uo ts.length ix Z) H2 {s2 with heap:=h4,toks:=s2.toks+([]:List (Str×Value)).length} :=
  aib S I2 f2 hob hCle old hns4 rfl rfl
 have st4:tn 0 h4:=T.keep _ _ _ st2 λb _ o e=>old b o e;have accF:s2.heap.objs.size∉fp:=λz=>bC _ (hob _ z);have stat:∀{H':Hp},(∀b∈fp,H' b=none)->∀b∈fp,FpOk (cxC X (ts++fr) scope cl G.objs.size fp s2 H2) [] H' b:=λhn b hb =>
  ⟨hn b hb,λz=>by have h1:=hob b hb;have z':b=G.objs.size:=z;exact aV (aM h1 hCle) z',λz=>(ab5 S I2 f2 hob hCle).exfs b hb z,.inl hb,λx c e=>(f2 b hb).2.2.2.2.1 x c (S.sub x c e),λp hp=>absurd (show p∈([]:List (Addr×Obj)) from hp) (by simp)⟩
 have statA:∀{H':Hp},H' s2.heap.objs.size=none->FpOk (cxC X (ts++fr) scope cl G.objs.size fp s2 H2) [] H' s2.heap.objs.size:=λhn =>
  ⟨hn,λz=>hne (show G.objs.size=s2.heap.objs.size from z.symm),λz=>by
   obtain ⟨_,o,ho,_⟩:=(ab5 S I2 f2 hob hCle).funs.mem z;exact bC _ (aG ho),.inr (aA _),λx c e z=>by
   obtain ⟨v,o,ho,_⟩:=I2.cell x c (S.sub x c e);rw [z] at ho;exact bC _ (aG ho),λp hp=>absurd (show p∈([]:List (Addr×Obj)) from hp) (by simp)⟩
 have loop:codeAny (model X.prog X.w) X.A (.compLoop (.ListComp elt [⟨tg,iter,cnd.toList,0⟩] scope pos) 0 (.ref it) (.ref s2.heap.objs.size) (compEnvC scope cl G.objs.size X.env))
   (compPost (model X.prog X.w) X.A X.xe use Qf (.ref s2.heap.objs.size) G.objs.size) {s2 with heap:=h4,toks:=s2.toks+([]:List (Str×Value)).length} :=
  ab6 (Y:=cxC X (ts++fr) scope cl G.objs.size fp s2 H2) hc (λ_ _ h=>h) rfl T stat statA accF (hg _ _ _ _) (he _ _ _ _) (ht _ _ _ _) turn w0 K0 st4 (λb hb=>(f2 b hb).1) (I2.hok.fresh (aA _)) hacc λs6 H6 ys its k I6 fa rv hz qn=>by
   have e6:=(I6.pin (s2.heap.objs.size,{cls:=.type "list",data:=.seq its.toArray k}) (by show _∈[]++[_];simp)).1
   obtain ⟨m6,hn6,_⟩:=I6.loc;exact fin _ _ s6 _ m6 hn6 (I2.fpOk hCle (by rw [jc hne];exact I6.free)) (λh' sb=>comp_back I2 f2 hCle (aA _) hne I6.unpinned' fa e6 rv hz sb) (qn _ fa)
 exact codeAny_compStart_list loop (T.self _ 0 _ _ _ st4 loop)
theorem ab7(hc:X.calm=true)(S:CSc X scope cl ts fr ix)(hi:PI X tg iter wi)
  (hg:∀C fp s H,PG (cxC X (ts++fr) scope cl C fp s H) tg g) (he:∀C fp s H,PE (cxC X (ts++fr) scope cl C fp s H) elt te) (hs:∀x,foldedSetIterable iter X.env x=pure x)
  (use:Option (Value->Sem Unit)) (I:Inv X pins Z H s) (h:ab4 wi (uo ts.length ix) g te Z H Q) (fin:a3l X pins Z use Q Qf) :
  wpAny (model X.prog X.w) X.A (comprehension (.ListComp elt [⟨tg,iter,[],0⟩] scope pos) scope X.env ppos (newList []) false (eval iter X.env) use) Qf X.xe s:=by
 refine a8l (cnd:=none) (tc:=λZ H Q=>Q true H) hc S hi hg he (λ_ _ _ _ pins s Z H Q I h=>ar ⟨H,I,h⟩) hs use I ?_ fin;unfold a3k a99;unfold ab4 ama at h;simpa only [db] using h
theorem amb(hc:X.calm=true)(S:CSc X scope cl ts fr ix)(hi:PI X tg iter wi)
  (hg:∀C fp s H,PG (cxC X (ts++fr) scope cl C fp s H) tg g) (he:∀C fp s H,PE (cxC X (ts++fr) scope cl C fp s H) elt te)
  (hs:∀x,foldedSetIterable iter X.env x=pure x:=by intro _;rfl) :
  PE X (.ListComp elt [⟨tg,iter,[],0⟩] scope pos) (ab4 wi (uo ts.length ix) g te):=by
 intro pins s Z H Q I h
 rw [eval_ListComp];exact ab7 hc S hi hg he hs none I h aeb
theorem aec{spos:Pos}(hN:X.N.Nodup)(hi':X.N[i]? = some x)(hx:Loc X.env.scope x)(hc:X.calm=true)(S:CSc X scope cl ts fr ix)(hi:PI X tg iter wi)
  (hg:∀C fp s H,PG (cxC X (ts++fr) scope cl C fp s H) tg g) (he:∀C fp s H,PE (cxC X (ts++fr) scope cl C fp s H) elt te)
  (hs:∀x,foldedSetIterable iter X.env x=pure x:=by intro _;rfl) (hsw:swapsWith (.ListComp elt [⟨tg,iter,[],0⟩] scope pos) (some (.Name x pos')) spos.line X.env=pure true:=by rfl) (hf:X.fn x=true\/X.env.scope.names.lookup x=some .local:=by first|exact .inl rfl|exact .inr rfl|assumption) :
  PS X (.Assign [.Name x pos'] (.ListComp elt [⟨tg,iter,[],0⟩] scope pos) spos) (au6 (ab4 wi (uo ts.length ix) g te) (a1d i)):=by
 intro pins s Z H D I h
 rw [gA _ _ _ _ hsw];refine af (de (af ?_));refine af (bF (ab7 hc S hi hg he hs (some (assign (.Name x pos') X.env)) I h (a9a hN hi' hx hf)) (λ_ s' hq=>ar (ar hq)) λ_ _ e=>e)
end
section
variable{K:Type}[DecidableEq K]
def stepK(l:List K)(v:K):List K:=if v∈l then l else l++[v]
end
end L2
namespace L2
theorem auy:bootBuiltins "len" = some (.builtin "len"):=PySem.boot_len
theorem ou:bootBuiltins "isinstance" = some (.builtin "isinstance"):=by first|exact PySem.boot_isinstance|exact PyProof.Rows.boot_isinstance
theorem aic:bootBuiltins "str" = some (.type "str"):=by first|exact PySem.boot_str|exact PyProof.Rows.boot_str
theorem aow:bootBuiltins "abs" = some (.builtin "abs"):=by first|exact PySem.boot_abs|exact PyProof.Rows.boot_abs
theorem aed:bootBuiltins "int" = some (.type "int"):=by first|exact PySem.boot_int|exact PyProof.Rows.boot_int
theorem aqn:bootBuiltins "list" = some (.type "list"):=by first|exact PySem.boot_list|exact PyProof.Rows.boot_list
theorem zm:bootBuiltins "tuple" = some (.type "tuple"):=by first|exact PySem.boot_tuple|exact PyProof.Rows.boot_tuple
structure Dn (P:Program) (w:World) (K:PySem.W.Frag) (mg:Str->Option Value) (base:Heap) (k:Nat) (x:Str) (ps:List Str) (sp:Sp) (f:Addr) (fd:FuncData):Prop where
 ok:FnOk P w K mg base CX0 k f fd ps sp
 m:mg x=some (.ref f)
 kp:PySem.W.keepIn K (.ref f)=true
 b:Binds K fd ps []
theorem ayw:sizeLine=16777216:=fB
theorem aqo(h:n<=16777216):n<=sizeLine:=by rw [fB];exact h
theorem CSc.noFree{scope:Scope}(kind:scope.kind=.function)(h:∀y∈scope.names,y.2≠.cell/\y.2≠.free)(names:∀y∈scope.names,y.2=.local->scope.names.lookup y.1=some .local)
  (ht:∀y∈ts,scope.names.lookup y=some .local):CSc X scope [] ts [] []:=by
 have e:(relabel scope X.env).names=scope.names:=by
  show scope.names.map _=_;refine map_eq_self λy hy=>?_;obtain ⟨n,k⟩:=y;have:(k == NameKind.free)=false:=by simpa using (h _ hy).2
  simp [this]
 refine ⟨closureFor_none λy hy=>(h y hy).2,kind,λy hy=>(h y hy).1,names,(λ_ _ z=>nomatch z),λy z=>?_,λy hy=>by rw [e];exact ht y hy,rfl,(λ_ _ z=>by simp at z)⟩
 rw [e] at z
 rcases z with z|z
 .exact absurd rfl (h _ (bS z)).1
 .exact absurd rfl (h _ (bS z)).2
theorem ayx(x y:Str):(x++y).cps.toList=x.cps.toList++y.cps.toList:=by
 show (x.cps++y.cps).toList=_;simp
theorem a9b{α:Type}(xs:List α)(k:Nat):a4v xs none (some (k:Int))=xs.take k:=by
 unfold a4v;rw [HT.a93,HT.a94,fh,gz]
 by_cases h:k<=xs.length
 .rw [eM h]
 .rw [gE (by omega),bV (aA _),bV (by omega)]
theorem a6w{α:Type}(xs:List α)(k:Nat):a4v xs (some (k:Int)) none=xs.drop k:=by
 unfold a4v;rw [HT.a93,HT.a94]
 by_cases h:k<=xs.length
 .rw [eM h,bV (by rw [bN];omega)]
 .rw [gE (by omega),bJ (aA _),bJ (by omega),iV]
theorem aqp{α:Type}(xs:List α)(j k:Nat):a4v xs (some (j:Int)) (some (k:Int))=(xs.drop j).take (k-j):=by
 unfold a4v;rw [HT.a94,HT.a94]
 by_cases h:j<=xs.length
 .rw [eM h]
  by_cases h2:k<=xs.length
  .rw [eM h2]
  .rw [gE (by omega),bV (by rw [bN];omega),bV (by rw [bN];omega)]
 .rw [gE (show xs.length<=j by omega),bJ (aA _),bJ (by omega),iV,iV]
end L2
namespace L2
open PyProof.Rows
section
variable{X:Cx}
theorem acr(hc:X.calm=true)(S:CSc X scope cl ts fr ix)(hi:PI X tg iter wi)
  (hg:∀C fp s H,PG (cxC X (ts++fr) scope cl C fp s H) tg g) (he:∀C fp s H,PE (cxC X (ts++fr) scope cl C fp s H) elt te) (ht:∀C fp s H,PT (cxC X (ts++fr) scope cl C fp s H) cnd tc) (hs:∀x,foldedSetIterable iter X.env x=pure x)
  (use:Option (Value->Sem Unit)) (I:Inv X pins Z H s) (h:a3k wi (uo ts.length ix) g tc te Z H Q) (fin:a3l X pins Z use Q Qf) :
  wpAny (model X.prog X.w) X.A (comprehension (.ListComp elt [⟨tg,iter,[cnd],0⟩] scope pos) scope X.env ppos (newList []) false (eval iter X.env) use) Qf X.xe s :=
 a8l (cnd:=some cnd) hc S hi hg he ht hs use I h fin
theorem agc{spos:Pos}(hN:X.N.Nodup)(hi':X.N[i]? = some x)(hx:Loc X.env.scope x)(hc:X.calm=true)(S:CSc X scope cl ts fr ix)(hi:PI X tg iter wi)
  (hg:∀C fp s H,PG (cxC X (ts++fr) scope cl C fp s H) tg g) (he:∀C fp s H,PE (cxC X (ts++fr) scope cl C fp s H) elt te) (ht:∀C fp s H,PT (cxC X (ts++fr) scope cl C fp s H) cnd tc)
  (hs:∀x,foldedSetIterable iter X.env x=pure x:=by intro _;rfl) (hsw:swapsWith (.ListComp elt [⟨tg,iter,[cnd],0⟩] scope pos) (some (.Name x pos')) spos.line X.env=pure true:=by rfl) (hf:X.fn x=true\/X.env.scope.names.lookup x=some .local:=by first|exact .inl rfl|exact .inr rfl|assumption) :
  PS X (.Assign [.Name x pos'] (.ListComp elt [⟨tg,iter,[cnd],0⟩] scope pos) spos) (au6 (a3k wi (uo ts.length ix) g tc te) (a1d i)):=by
 intro pins s Z H D I h
 rw [gA _ _ _ _ hsw];refine af (de (af ?_));refine af (bF (acr hc S hi hg he ht hs (some (assign (.Name x pos') X.env)) I h (a9a hN hi' hx hf)) (λ_ s' hq=>ar (ar hq)) λ_ _ e=>e)
end
section
variable{X:Cx}
theorem a4y:OpR X (compareOp .In) (λx y H Q=>∃c T,x=.str ⟨#[c]⟩/\y=.str T/\Q (.bl (decide (c∈T.cps.toList))) H):=by
 intro pins s Z H x y v u Q I rx ry h
 obtain ⟨c,T,rfl,rfl,q⟩:=h;exact ahx pins s Z H _ _ v u Q I rx ry ⟨_,_,rfl,rfl,by rw [StrLaws.found_one];exact q⟩
theorem a4z:OpR X (compareOp .NotIn) (λx y H Q=>∃c T,x=.str ⟨#[c]⟩/\y=.str T/\Q (.bl (!decide (c∈T.cps.toList))) H):=by
 intro pins s Z H x y v u Q I rx ry h
 obtain ⟨c,T,rfl,rfl,q⟩:=h;exact aav pins s Z H _ _ v u Q I rx ry ⟨_,_,rfl,rfl,by rw [StrLaws.found_one];exact q⟩
theorem aqq{zs:List Str}:∀{us:List Value},Vals (zs.map V.str) us->StrsAre us zs:=by
 induction zs with
 |nil=>intro us r;rw [dD] at r;cases r;exact .nil
 |cons z zs ih =>
  intro us r
  rw [aT] at r
  cases r with
  |cons r1 r2 =>
   obtain ⟨t,e⟩:=r1;subst e;exact .cons z t (ih r2)
theorem a6x:MtR X "str.join" (λx xs H Q=>∃sep p zs,x=.str sep/\xs=[.ref p]/\SqL X.K H p (zs.map V.str)/\(zs.map (·.length)).sum+zs.length*sep.length<=16777216/\Q (.str (Txt.join sep zs)) H):=by
 intro pins s Z H x xs v us Q I rx rs h
 obtain ⟨sep,p,zs,rfl,rfl,hp,hz,q⟩:=h;obtain ⟨t,rfl⟩:=rx;obtain ⟨u,rfl,ru⟩:=vals1 rs;cases ru
 obtain ⟨its,r,pl,_⟩:=I.list hp;exact join_list pl.isList (by simpa using aqq r) hz λt' k=>⟨.str _,H,I.tok _,⟨_,rfl⟩,q⟩
end
theorem CSc.of{X:Cx}{ts fr:List Str}{ix:List Nat}(clos:closureFor scope X.env=pure cl)(kind:scope.kind=.function)
  (nocell:(scope.names.all λp=>p.2 != .cell)=true) (names:(scope.names.all λp=>p.2 != .local || scope.names.lookup p.1 == some .local)=true) (sub:∀p∈cl,X.env.cells.lookup p.1=some p.2)
  (has:((relabel scope X.env).names.all λp => !(p.2 == .cell || p.2 == .free) || (cl.lookup p.1).isSome)=true) (nofn:(ts.all λy=>(relabel scope X.env).names.lookup y == some .local)=true)
  (len:ix.length=fr.length) (vis:((fr.zip ix).all λp=>X.N[p.2]? == some p.1 && (X.env.kindOf p.1 == some .cell || X.env.kindOf p.1 == some .free) && ((relabel scope X.env).names.lookup p.1 == some .cell || (relabel scope X.env).names.lookup p.1 == some .free))=true) :
  CSc X scope cl ts fr ix:=by
 refine ⟨clos,kind,λy hy=>?_,λy hy e=>?_,λy c e=>sub _ (bS e),λy z=>?_,λy hy=>?_,len,λj y e=>?_⟩
 .have:=bY.mp nocell y hy
  simpa using this
 .have:=bY.mp names y hy
  rw [e] at this;simpa using this
 .have key:∀k,(relabel scope X.env).names.lookup y=some k->(k == .cell || k == .free)=true->∃c,cl.lookup y=some c:=λk e hk=>by
   have:=bY.mp has _ (bS e)
   rw [hk] at this;exact fF.mp (by simpa using this)
  rcases z with z|z
  .exact key _ z rfl
  .exact key _ z rfl
 .have:=bY.mp nofn y hy
  simpa using this
 .obtain ⟨hj,_⟩:=am.mp e;have hj2:j<ix.length:=by omega
  have hm:(y,ix[j])∈fr.zip ix:=by
   rw [List.mem_iff_getElem?];exact ⟨j,by rw [dY];exact ⟨e,ag hj2⟩⟩
  have:=bY.mp vis _ hm
  simp only [cf,iL,gN] at this;exact ⟨ix[j],ag hj2,this.1.1,this.1.2,this.2⟩
end L2
namespace HT
open PyProof.Rows
end HT
namespace L2
open PyProof.Rows
def tSM(r:V->List V->Hp->VK->Prop)(to:TE)(t:TA):TE:=λZ H Q=>to Z H λx H1=>(∃z,x=.str z)/\t Z H1 λxs H2=>r x xs H2 Q
theorem ayy{X:Cx}{o e:Expr}{es:List Expr}{to:TE}{t:TA}{name:Str}{apos cpos:Pos}{id:String}{r:V->List V->Hp->VK->Prop}(slot:Slot "str" name id)(hty:typeOf (.builtin id)=pure (.type "method_descriptor"))(hm:MtR X id r)(ho:PE X o to)(ha:PA X (e::es) t)
  (hbase:attributeBase o name X.env (eval o X.env)=eval o X.env:=by rfl)
  (hfew:((backTo cpos (starEach (e::es) X.env)).all (λx => !x.1) && (backToKw cpos (keywordEach [] X.env)).all (λx=>x.1.isSome)
   && decide ((e::es).length+([]:List Keyword).length+(if ([]:List Keyword).isEmpty then 0 else 1)<30))=true:=by rfl)
  (hline:(apos.endLine == cpos.line)=true:=by rfl) (hs:starEach (e::es) X.env=(false,eval e X.env)::starEach es X.env:=by rfl) (hplain:(backTo cpos (starEach es X.env)).any (·.1)=false:=by rfl) :
  PE X (.Call (.Attribute o name apos) (e::es) [] cpos) (tSM r to t):=by
 intro pins s Z H Q I h
 refine wpAny_Call_method_late hbase hfew hline rfl (thn (ho pins s Z H _ I h) λv s1 ⟨x,H1,I1,r1,⟨z,hz⟩,q1⟩=>?_);subst hz;obtain ⟨h1,h2⟩:=aou (T := "str") I1 r1 rfl;refine ⟨"str",id,PySem.F.plainAttrs_str,slot,hty,h1,h2,?_⟩;have hA:=ha cpos pins s1 Z H1 _ I1 q1;rw [hs] at hA ⊢;refine Calls.callWith_builtin (by show (false || (backTo cpos (starEach es X.env)).any (·.1))=false;rw [hplain]<;>rfl) (Calls.evalArgs_plain ?_)
 exact thn hA λus s2 ⟨vs,H2,I2,r2,q2⟩=>hm pins s2 Z H2 _ vs v us Q I2 r1 r2 q2
end L2
namespace SHP
open L2
end SHP
namespace L2
open PyProof.Rows
open PySem.AutoSeq1 in
theorem a6y(l b:Addr)(xs ys:Array Value)(n m:Nat)(dd:Option Addr)(sl:Array (Option Value))(long:¬(!xs.isEmpty && Builtin.List.listTooLong (xs.size+ys.size))=true)(fit1:xs.size<=sizeLine)(fit2:xs.size+ys.size<=sizeLine+1) :
  Meets (Builtin.«list.extend» ⟨[.ref l,.ref b],[]⟩) (λ_ R s=>(s.heap.get? l=some {cls:=.type "list",dict:=none,data:=.seq xs n,slots := #[]}/\s.heap.get? b=some {cls:=.type "tuple",dict:=dd,data:=.seq ys m,slots:=sl})/\R (.ok (.ret Value.none)) {s with heap:=s.heap.update l (Obj.mapSeq (·++ys))}) :=
 .of_wp λprog w A R ⟨hp,gn,dr,tk,os⟩ ⟨⟨hl,hb⟩,q⟩=>by
  have a1:=idx_int;have a2:=AutoSeq1.sub_tuple_tuple;have a3:=AutoSeq1.sub_list_list;have a4:=AutoSeq1.sub_tuple_list;have a5:=AutoSeq1.sub_list_tuple;have both:(xs++ys).size<=sizeLine+1:=by simpa using fit2
  wp_walk using cU hl rfl (hz:=fit1) (_hz':=both),wpAny_loadPart' hl,wpAny_loadPart' hb
  exact ⟨_,rfl,q⟩
section
variable{X:Cx}
def aee(K:PySem.W.Frag):V->List V->Hp->VK->Prop:=λx vs H Q=>∃l b xs zs,x=.ref l/\vs=[.ref b]/\H l=some (.lst xs)/\SqT K H b zs/\xs.length+zs.length<=sizeLine/\Q .non (upd H l (.lst (xs++zs)))
theorem agd:MtM X "list.extend" (aee X.K):=by
 intro pins s Z H x vs v us Q I rx rv h
 obtain ⟨l,b,xs,zs,rfl,rfl,hH,hB,hz,q⟩:=h;cases rx
 obtain ⟨u,rfl,ru⟩:=rv.one;cases ru
 obtain ⟨z,its,n,r,hl,e⟩:=I.lstM hH;obtain ⟨its2,r2,p2,_⟩:=I.tuple hB;have hl2:=r2.length;obtain ⟨⟨cls,dd,data,sl⟩,e2,hc,hrest⟩:=id p2;have hsz:its.toArray.size+its2.toArray.size<=sizeLine:=by rw [aL,aL];omega
 have hlong:¬ (!its.toArray.isEmpty && Builtin.List.listTooLong (its.toArray.size+its2.toArray.size))=true:=by
  rw [a97 hsz,iQ];exact aX
 obtain ⟨n2,hd⟩:=(show ∃n2,data=.seq its2.toArray n2 from by first|exact hrest|exact ⟨_,hrest.2⟩|(obtain ⟨_,n,hd⟩:=hrest;exact ⟨n,hd⟩))
 have hc':cls=.type "tuple":=hc;subst hc' hd;refine gM F.slot_list_extend ⟨_,e,rfl⟩ F.entry_list_extend (F.args_list_extend_2 _ _)
  (a6y l b its.toArray its2.toArray n n2 dd sl hlong (by rw [aL];omega) (by omega)) ⟨⟨e,e2⟩,?_⟩
 refine ⟨.non,_,I.lset (its':=its++its2) hH e (by simp) (r.append r2) ?_,rfl,q⟩
 rw [av];omega
end
end L2
namespace SHP
open L2
end SHP
namespace MI
open L2
inductive D where
 |non|bl (b:Bool)|int (i:Int)|str (x:Str)|ty (n:String)|tup (xs:List D)|rol (xs:List D)|ref (i:Nat)|scr (xs:List D)|rod (ks:List Key) (xs:List D)|rdT (ks:List (List Key)) (xs:List D)|exc (c:Str)
inductive O where
 |lst (xs:List D)|dK (kvs:List (Key×D))|dT (kvs:List (List Key×D))
abbrev Hd:=List O
abbrev Sd:=List (Option D)
inductive R (α:Type) where
 |ok (a:α) (h:Hd)|ex (c:Str) (h:Hd)|no
noncomputable def R.bind{α β:Type}:R α->(α->Hd->R β)->R β
 |.ok a h,k=>k a h
 |.ex c h,_=>.ex c h
 |.no,_=>.no
inductive Fl where
 |nx (Z:Sd) (h:Hd)|rt (d:D) (h:Hd)|bk (Z:Sd) (h:Hd)|ct (Z:Sd) (h:Hd)|ex (c:Str) (h:Hd)|no
noncomputable def R.fl{α:Type}:R α->(α->Hd->Fl)->Fl
 |.ok a h,k=>k a h
 |.ex c h,_=>.ex c h
 |.no,_=>.no
abbrev SE:=Sd->Hd->R D
abbrev ST:=Sd->Hd->R Bool
abbrev SA:=Sd->Hd->R (List D)
abbrev SS:=Sd->Hd->Fl
def SqF(K:PySem.W.Frag)(H:Hp)(a:Addr)(vs:List V):Prop:=(∃o,H a=some (.frz o (.lst vs)))\/SqL K (λ_=>none) a vs
theorem SqF.l(h:SqF K H a vs):SqL K H a vs:=by
 rcases h with ⟨o,h⟩|h
 .exact .inl (.inr ⟨o,h⟩)
 .rcases h with (h|⟨o,h⟩)|h
  .cases h
  .cases h
  .exact .inr h
def SqZ(H:Hp)(a:Addr)(vs:List V):Prop:=∃o,H a=some (.frz o (.lst vs))
theorem SqZ.l(h:SqZ H a vs):SqL K H a vs:=let ⟨o,e⟩:=h; .inl (.inr ⟨o,e⟩)
def exO(a:Addr):HO:=.ext λh=>∃o,h.get? a=some o
mutual
inductive Rep (K:PySem.W.Frag) (U:List Addr) (H:Hp):V->D->Prop
 |non:Rep K U H .non .non
 |bl (b:Bool):Rep K U H (.bl b) (.bl b)
 |int (i:Int):Rep K U H (.int i) (.int i)
 |str (x:Str):Rep K U H (.str x) (.str x)
 |ty (n:String):Rep K U H (.ty n) (.ty n)
 |tup {a:Addr} {vs:List V} {xs:List D} (h:H a=some (.tup vs)) (r:Reps K U H vs xs):Rep K U H (.ref a) (.tup xs)
 |rol {a:Addr} {vs:List V} {xs:List D} (h:SqZ H a vs) (r:Reps K U H vs xs):Rep K U H (.ref a) (.rol xs)
 |scr {a:Addr} {vs:List V} {xs:List D} (h:SqF K H a vs) (r:Reps K U H vs xs):Rep K U H (.ref a) (.scr xs)
 |ref {a:Addr} {i:Nat} (h:U[i]? = some a):Rep K U H (.ref a) (.ref i)
 |rod {a:Addr} {o:Obj} {us:List (Key×V)} {ks:List Key} {xs:List D} (h:H a=some (.frz o (.dK us))) (e:us.map (·.1)=ks) (r:Reps K U H (us.map (·.2)) xs):Rep K U H (.ref a) (.rod ks xs)
 |rdT {a:Addr} {o:Obj} {us:List (List Key×V)} {ks:List (List Key)} {xs:List D} (h:H a=some (.frz o (.dT us))) (e:us.map (·.1)=ks) (r:Reps K U H (us.map (·.2)) xs):Rep K U H (.ref a) (.rdT ks xs)
 |exc {a C:Addr} {o:Obj} {c:Str} (h:H a=some (.frz o (exO a))) (hc:o.cls=.ref C) (hn:PySem.W.nsIn K mainGlobals c=some (some (.ref C))):Rep K U H (.ref a) (.exc c)
inductive Reps (K:PySem.W.Frag) (U:List Addr) (H:Hp):List V->List D->Prop
 |nil:Reps K U H [] []
 |cons {v:V} {d:D} {vs:List V} {ds:List D} (r:Rep K U H v d) (rs:Reps K U H vs ds):Reps K U H (v::vs) (d::ds)
end
structure Gw (U:List Addr) (H:Hp) (U':List Addr) (H':Hp):Prop where
 pre:∃m,U'=U++m
 tup:∀a vs,H a=some (.tup vs)->H' a=some (.tup vs)
 frz:∀a o u,H a=some (.frz o u)->H' a=some (.frz o u)
structure Gr (U:List Addr) (H:Hp) (U':List Addr) (H':Hp):Prop where
 pre:∃m,U'=U++m/\∀a∈m,H a=none
 tup:∀a vs,H a=some (.tup vs)->H' a=some (.tup vs)
 frz:∀a o u,H a=some (.frz o u)->H' a=some (.frz o u)
 oth:∀a u,H a=some u->a∉U->H' a=some u
 kp:∀a u,H a=some u->∃u',H' a=some u'
theorem Gr.w(g:Gr U H U' H'):Gw U H U' H':=⟨let ⟨m,e,_⟩:=g.pre; ⟨m,e⟩,g.tup,g.frz⟩
theorem Gr.refl(U:List Addr)(H:Hp):Gr U H U H:=⟨⟨[],by simp,by simp⟩,λ_ _ h=>h,λ_ _ _ h=>h,λ_ _ h _=>h,λ_ u h=>⟨u,h⟩⟩
theorem Gr.trans(a:Gr U H U1 H1)(b:Gr U1 H1 U2 H2):Gr U H U2 H2:=by
 obtain ⟨m,rfl,hm⟩:=a.pre;obtain ⟨n,rfl,hn⟩:=b.pre;refine ⟨⟨m++n,by simp,λx hx=>?_⟩,λx vs h=>b.tup x vs (a.tup x vs h),λx o u h=>b.frz x o u (a.frz x o u h),λx u h hx=>?_,λx u h=>?_⟩
 .rcases aZ.mp hx with hx|hx
  .exact hm x hx
  .cases e:H x with
   |none=>rfl
   |some u =>
    obtain ⟨u',e'⟩:=a.kp x u e;rw [hn x hx] at e';cases e'
 .refine b.oth x u (a.oth x u h hx) λz=>?_
  rcases aZ.mp z with z|z
  .exact hx z
  .rw [hm x z] at h;cases h
 .obtain ⟨u',e⟩:=a.kp x u h;exact b.kp x u' e
theorem Gw.at(g:Gw U H U' H'){i:Nat}(h:U[i]? = some a):U'[i]? = some a:=by
 obtain ⟨m,rfl⟩:=g.pre;rw [aP (am.mp h).1];exact h
theorem Gr.at(g:Gr U H U' H'){i:Nat}(h:U[i]? = some a):U'[i]? = some a:=g.w.at h
theorem SqF.monoW(g:Gw U H U' H')(h:SqF K H a vs):SqF K H' a vs:=by
 rcases h with ⟨o,h⟩|h
 .exact .inl ⟨o,g.frz _ _ _ h⟩
 .exact .inr h
theorem SqZ.monoW(g:Gw U H U' H')(h:SqZ H a vs):SqZ H' a vs:=let ⟨o,e⟩:=h; ⟨o,g.frz _ _ _ e⟩
theorem SqZ.mono(g:Gr U H U' H')(h:SqZ H a vs):SqZ H' a vs:=h.monoW g.w
mutual
theorem Rep.monoW(g:Gw U H U' H'):∀{v:V} {d:D},Rep K U H v d->Rep K U' H' v d
 |_,_,.non=>.non
 |_,_,.bl b=>.bl b
 |_,_,.int i=>.int i
 |_,_,.str x=>.str x
 |_,_,.ty n=>.ty n
 |_,_,.tup h r=>.tup (g.tup _ _ h) (Reps.monoW g r)
 |_,_,.rol h r=>.rol (h.monoW g) (Reps.monoW g r)
 |_,_,.scr h r=>.scr (h.monoW g) (Reps.monoW g r)
 |_,_,.ref h=>.ref (g.at h)
 |_,_,.rod h e r=>.rod (g.frz _ _ _ h) e (Reps.monoW g r)
 |_,_,.rdT h e r=>.rdT (g.frz _ _ _ h) e (Reps.monoW g r)
 |_,_,.exc h hc hn=>.exc (g.frz _ _ _ h) hc hn
theorem Reps.monoW(g:Gw U H U' H'):∀{vs:List V} {ds:List D},Reps K U H vs ds->Reps K U' H' vs ds
 |_,_,.nil=>.nil
 |_,_,.cons r rs=>.cons (Rep.monoW g r) (Reps.monoW g rs)
end
theorem Rep.mono(g:Gr U H U' H')(r:Rep K U H v d):Rep K U' H' v d:=r.monoW g.w
theorem Reps.mono(g:Gr U H U' H')(r:Reps K U H vs ds):Reps K U' H' vs ds:=r.monoW g.w
section
variable{K:PySem.W.Frag}{U:List Addr}{H:Hp}
theorem Reps.len:Reps K U H vs ds->vs.length=ds.length
 |.nil=>rfl
 |.cons _ rs=>by rw [aH,aH,rs.len]
theorem Reps.get:∀{vs:List V} {ds:List D} {i:Nat} {d:D},Reps K U H vs ds->ds[i]? = some d->∃v,vs[i]? = some v/\Rep K U H v d
 |_,_,_,_,.nil,e=>by simp at e
 |_,_,0,_,.cons r _,e=>by simp at e;subst e;exact ⟨_,rfl,r⟩
 |_,_,i+1,d,.cons _ rs,e=>by
  obtain ⟨u,h1,h2⟩:=Reps.get (i:=i) (d:=d) rs (by simpa using e)
  exact ⟨u,by simpa using h1,h2⟩
theorem Reps.app:∀{vs us:List V} {ds es:List D},Reps K U H vs ds->Reps K U H us es->Reps K U H (vs++us) (ds++es)
 |_,_,_,_,.nil,s=>s
 |_,_,_,_,.cons r rs,s=>.cons r (Reps.app rs s)
theorem Reps.set(q:Rep K U H v d):∀{vs:List V} {ds:List D} (i:Nat),Reps K U H vs ds->Reps K U H (vs.set i v) (ds.set i d)
 |_,_,_,.nil=>.nil
 |_,_,0,.cons _ rs=>.cons q rs
 |_,_,i+1,.cons r rs=>.cons r (Reps.set q i rs)
theorem Reps.take:∀{vs:List V} {ds:List D} (n:Nat),Reps K U H vs ds->Reps K U H (vs.take n) (ds.take n)
 |_,_,0,_=>.nil
 |_,_,_+1,.nil=>.nil
 |_,_,n+1,.cons r rs=>.cons r (Reps.take n rs)
theorem Reps.drop:∀{vs:List V} {ds:List D} (n:Nat),Reps K U H vs ds->Reps K U H (vs.drop n) (ds.drop n)
 |_,_,0,r=>r
 |_,_,_+1,.nil=>.nil
 |_,_,n+1,.cons _ rs=>Reps.drop n rs
theorem Reps.snoc(r:Reps K U H vs ds)(q:Rep K U H v d):Reps K U H (vs++[v]) (ds++[d]):=r.app (.cons q .nil)
theorem Reps.flat:∀{vs:List V} {ds:List D} (k:Nat),Reps K U H vs ds->Reps K U H (List.replicate k vs).flatten (List.replicate k ds).flatten
 |_,_,0,_=>.nil
 |vs,ds,k+1,r=>by
  rw [cH,cH,bb,bb];exact r.app (Reps.flat k r)
end
def KRep{κ:Type}(K:PySem.W.Frag)(U:List Addr)(H:Hp)(us:List (κ×V))(kvs:List (κ×D)):Prop:=us.map (·.1)=kvs.map (·.1)/\Reps K U H (us.map (·.2)) (kvs.map (·.2))
def ORep(K:PySem.W.Frag)(U:List Addr)(H:Hp)(a:Addr):O->Prop
 |.lst xs=>∃vs,H a=some (.lst vs)/\Reps K U H vs xs
 |.dK kvs=>∃us,H a=some (.dK us)/\KRep K U H us kvs
 |.dT kvs=>∃us,H a=some (.dT us)/\KRep K U H us kvs
structure HRep (K:PySem.W.Frag) (U:List Addr) (H:Hp) (h:Hd):Prop where
 nd:U.Nodup
 len:U.length=h.length
 obj:∀(i:Nat) (a:Addr) (o:O),U[i]? = some a->h[i]? = some o->ORep K U H a o
section
variable{K:PySem.W.Frag}{U:List Addr}{H:Hp}{h:Hd}
theorem ORep.some(r:ORep K U H a o):∃u,H a=some u/\(∀vs,u≠.tup vs)/\(∀o' u',u≠.frz o' u'):=by
 cases o with
 |lst xs=>obtain ⟨vs,e,_⟩:=r;exact ⟨_,e,λ_ z=>(by cases z),λ_ _ z=>(by cases z)⟩
 |dK kvs=>obtain ⟨us,e,_⟩:=r;exact ⟨_,e,λ_ z=>(by cases z),λ_ _ z=>(by cases z)⟩
 |dT kvs=>obtain ⟨us,e,_⟩:=r;exact ⟨_,e,λ_ z=>(by cases z),λ_ _ z=>(by cases z)⟩
theorem HRep.at(r:HRep K U H h){i:Nat}(e:U[i]? = some a):∃o,h[i]? = some o/\ORep K U H a o:=by
 have hi:i<h.length:=by rw [<-r.len];exact (am.mp e).1
 exact ⟨h[i],ag hi,r.obj i a _ e (ag hi)⟩
theorem HRep.addr(r:HRep K U H h){i:Nat}(e:h[i]? = some o):∃a,U[i]? = some a/\ORep K U H a o:=by
 have hi:i<U.length:=by rw [r.len];exact (am.mp e).1
 exact ⟨U[i],ag hi,r.obj i _ o (ag hi) e⟩
theorem HRep.notin(r:HRep K U H h)(e:H p=none):p∉U:=λz=>by
 obtain ⟨i,hi⟩:=cO z;obtain ⟨o,_,q⟩:=r.at hi;obtain ⟨u,q,_⟩:=q.some;rw [e] at q;cases q
theorem ORep.monoW(g:Gw U H U' H')(e:H' a=H a)(r:ORep K U H a o):ORep K U' H' a o:=by
 cases o with
 |lst xs=>obtain ⟨vs,h1,h2⟩:=r;exact ⟨vs,by rw [e];exact h1,h2.monoW g⟩
 |dK kvs=>obtain ⟨us,h1,h2,h3⟩:=r;exact ⟨us,by rw [e];exact h1,h2,h3.monoW g⟩
 |dT kvs=>obtain ⟨us,h1,h2,h3⟩:=r;exact ⟨us,by rw [e];exact h1,h2,h3.monoW g⟩
theorem ORep.mono(g:Gr U H U' H')(e:H' a=H a)(r:ORep K U H a o):ORep K U' H' a o:=r.monoW g.w e
theorem zf(e:H p=none)(o:HO):Gr U H U (upd H p o) :=
 ⟨⟨[],by simp,by simp⟩,λa vs h=>by rw [jc (gm h e)];exact h,λa o u h=>by rw [jc (gm h e)];exact h,λa u h _=>by rw [jc (gm h e)];exact h,λa u h=>⟨u,by rw [jc (gm h e)];exact h⟩⟩
theorem HRep.aside(r:HRep K U H h)(e:H p=none)(o:HO):HRep K U (upd H p o) h:=by
 refine ⟨r.nd,r.len,λi a o' e1 e2=>?_⟩;have q:=r.obj i a o' e1 e2;obtain ⟨u,hu,_⟩:=q.some;exact q.mono (zf e o) (jc (gm hu e))
theorem aef(e:H p=none)(o:HO):Gr U H (U++[p]) (upd H p o) :=
 ⟨⟨[p],rfl,by simpa using e⟩,(zf (U:=U) e o).tup,(zf (U:=U) e o).frz,(zf (U:=U) e o).oth,(zf (U:=U) e o).kp⟩
theorem HRep.add(r:HRep K U H h)(e:H p=none)(q:ORep K (U++[p]) (upd H p o) p ob):HRep K (U++[p]) (upd H p o) (h++[ob]):=by
 refine ⟨?_,by simp [r.len],λi a o' e1 e2=>?_⟩
 .rw [bQ];exact ⟨r.nd,by simp,λa ha b hb z=>r.notin e (by rw [aD.mp hb] at z;rw [<-z];exact ha)⟩
 .by_cases hi:i<U.length
  .rw [aP hi] at e1;rw [aP (by rw [<-r.len];exact hi)] at e2
   have q:=r.obj i a o' e1 e2;obtain ⟨u,hu,_⟩:=q.some;exact q.mono (aef e o) (jc (gm hu e))
  .have hi2:i<(U++[p]).length:=(am.mp e1).1;have:i=U.length:=by simp at hi2;omega
   subst this;rw [aB (aA _)] at e1;rw [r.len,aB (aA _)] at e2;simp at e1 e2;subst e1 e2;exact q
theorem a5q{i:Nat}(r:HRep K U H h)(e:U[i]? = some a)(o:HO):Gr U H U (upd H a o):=by
 obtain ⟨_,_,q⟩:=r.at e;obtain ⟨u,hu,n1,n2⟩:=q.some;refine ⟨⟨[],by simp,by simp⟩,λb vs hb=>?_,λb o' u' hb=>?_,λb u' hb hn=>?_,λb u' hb=>?_⟩
 .rw [jc (λz=>by subst z;rw [hu] at hb;exact n1 _ (bK hb))];exact hb
 .rw [jc (λz=>by subst z;rw [hu] at hb;exact n2 _ _ (bK hb))];exact hb
 .rw [jc (λz=>hn (by subst z;exact bv e))];exact hb
 .by_cases z:b=a
  .subst z;exact ⟨o,km⟩
  .exact ⟨u',by rw [jc z];exact hb⟩
theorem HRep.put(r:HRep K U H h){i:Nat}(e:U[i]? = some a)(q:ORep K U (upd H a o) a ob):HRep K U (upd H a o) (h.set i ob):=by
 refine ⟨r.nd,by rw [eK];exact r.len,λj b o' e1 e2=>?_⟩
 by_cases hj:i=j
 .subst hj;rw [e] at e1;cases e1
  have hi:i<h.length:=by rw [<-r.len];exact (am.mp e).1
  rw [cD hi] at e2;cases e2
  exact q
 .rw [dv hj] at e2;have hne:b≠a:=λz=>by
   subst z;obtain ⟨h1,g1⟩:=am.mp e;obtain ⟨h2,g2⟩:=am.mp e1;have np:=cP.mp r.nd
   rcases hJ hj with l|l
   .exact np i j h1 h2 l (g1.trans g2.symm)
   .exact np j i h2 h1 l (g2.trans g1.symm)
  exact (r.obj j b o' e1 e2).mono (a5q r e o) (jc hne)
end
structure SRep (K:PySem.W.Frag) (U:List Addr) (H:Hp) (Z:St) (τ:Sd):Prop where
 len:Z.length=τ.length
 val:∀(i:Nat) (d:D),τ[i]? = some (some d)->∃v,Z[i]? = some (some v)/\Rep K U H v d
theorem SRep.mono(g:Gr U H U' H')(s:SRep K U H Z τ):SRep K U' H' Z τ :=
 ⟨s.len,λi d e=>let ⟨v,h1,h2⟩:=s.val i d e; ⟨v,h1,h2.mono g⟩⟩
theorem SRep.set(s:SRep K U H Z τ)(r:Rep K U H v d)(i:Nat):SRep K U H (Z.set i (some v)) (τ.set i (some d)):=by
 refine ⟨by simp [s.len],λj d' e=>?_⟩
 by_cases hj:i=j
 .subst hj;have hi:i<τ.length:=by
   have:=(am.mp e).1
   simpa using this
  rw [cD hi] at e;cases e
  exact ⟨v,by rw [cD (by rw [s.len];exact hi)],r⟩
 .rw [dv hj] at e ⊢;exact s.val j d' e
abbrev XD:=Str->List Addr->Hp->Hd->Prop
def out{α β:Type}(K:PySem.W.Frag)(E:XD)(Rp:List Addr->Hp->β->α->Prop)(U:List Addr)(H:Hp)(r:R α)(Q:β->Hp->Prop):Prop :=
 match r with
 |.ok a h=>∀U' H' b,Gr U H U' H'->Rp U' H' b a->HRep K U' H' h->Q b H'
 |.ex c h=>∀U' H',Gr U H U' H'->HRep K U' H' h->E c U' H' h
 |.no=>False
theorem zr{α β:Type}{K:PySem.W.Frag}{E:XD}{Rp:List Addr->Hp->β->α->Prop}{U U1:List Addr}{H H1:Hp}{r:R α}{Q:β->Hp->Prop}(o:out K E Rp U H r Q)(g:Gr U H U1 H1):out K E Rp U1 H1 r Q:=by
 cases r with
 |ok a h=>exact λU' H' b g'=>o U' H' b (g.trans g')
 |ex c h=>exact λU' H' g'=>o U' H' (g.trans g')
 |no=>exact o
theorem dh{α β γ δ:Type}{K:PySem.W.Frag}{E:XD}{Rp:List Addr->Hp->β->α->Prop}{Sp:List Addr->Hp->δ->γ->Prop}{U:List Addr}{H:Hp}{r:R α}{k:α->Hd->R γ}{Q:δ->Hp->Prop}{P:β->Hp->Prop}
  (o:out K E Sp U H (r.bind k) Q) (hP:∀a h U1 H1 b,Gr U H U1 H1->Rp U1 H1 b a->HRep K U1 H1 h->out K E Sp U1 H1 (k a h) Q->P b H1):out K E Rp U H r P:=by
 cases r with
 |ok a h=>exact λU' H' b g r' hr=>hP a h U' H' b g r' hr (zr o g)
 |ex c h=>exact o
 |no=>exact o
abbrev yx(K:PySem.W.Frag):List Addr->Hp->V->D->Prop:=λU H v d=>Rep K U H v d
abbrev b1i(K:PySem.W.Frag):List Addr->Hp->List V->List D->Prop:=λU H v d=>Reps K U H v d
abbrev aqr:List Addr->Hp->Bool->Bool->Prop:=λ_ _ a b=>a=b
abbrev b1j:List Addr->Hp->Option Int->Option Int->Prop:=λ_ _ a b=>a=b
def alp(K:PySem.W.Frag)(E:XD)(U:List Addr)(H:Hp)(r:Fl)(N:Ends):Prop :=
 match r with
 |.nx τ h=>∀U' H' Z,Gr U H U' H'->SRep K U' H' Z τ->HRep K U' H' h->N.nx Z H'
 |.bk τ h=>∀U' H' Z,Gr U H U' H'->SRep K U' H' Z τ->HRep K U' H' h->N.bk Z H'
 |.ct τ h=>∀U' H' Z,Gr U H U' H'->SRep K U' H' Z τ->HRep K U' H' h->N.ct Z H'
 |.rt d h=>∀U' H' v,Gr U H U' H'->Rep K U' H' v d->HRep K U' H' h->N.rt v H'
 |.ex c h=>∀U' H',Gr U H U' H'->HRep K U' H' h->E c U' H' h
 |.no=>False
theorem xg(o:alp K E U H r N)(g:Gr U H U1 H1):alp K E U1 H1 r N:=by
 cases r with
 |nx τ h=>exact λU' H' b g'=>o U' H' b (g.trans g')
 |bk τ h=>exact λU' H' b g'=>o U' H' b (g.trans g')
 |ct τ h=>exact λU' H' b g'=>o U' H' b (g.trans g')
 |rt d h=>exact λU' H' b g'=>o U' H' b (g.trans g')
 |ex c h=>exact λU' H' g'=>o U' H' (g.trans g')
 |no=>exact o
theorem a1y{α β:Type}{K:PySem.W.Frag}{E:XD}{Rp:List Addr->Hp->β->α->Prop}{U:List Addr}{H:Hp}{r:R α}{k:α->Hd->Fl}{N:Ends}{P:β->Hp->Prop}
  (o:alp K E U H (r.fl k) N) (hP:∀a h U1 H1 b,Gr U H U1 H1->Rp U1 H1 b a->HRep K U1 H1 h->alp K E U1 H1 (k a h) N->P b H1):out K E Rp U H r P:=by
 cases r with
 |ok a h=>exact λU' H' b g r' hr=>hP a h U' H' b g r' hr (xg o g)
 |ex c h=>exact o
 |no=>exact o
def lift{α β:Type}(K:PySem.W.Frag)(E:XD)(Rp:List Addr->Hp->β->α->Prop)(f:Sd->Hd->R α):St->Hp->(β->Hp->Prop)->Prop:=λZ H Q =>
 ∃U τ h,SRep K U H Z τ/\HRep K U H h/\out K E Rp U H (f τ h) Q
noncomputable def a9c(K:PySem.W.Frag)(E:XD)(f:SS):TS:=λN Z H=>∃U τ h,SRep K U H Z τ/\HRep K U H h/\alp K E U H (f τ h) N
abbrev ME(X:Cx)(E:XD)(e:Expr)(f:SE):Prop:=PE X e (lift X.K E (yx X.K) f)
abbrev MT(X:Cx)(E:XD)(e:Expr)(f:ST):Prop:=PT X e (lift X.K E aqr f)
abbrev MW(X:Cx)(E:XD)(e:Expr)(f:ST):Prop:=PW X e (lift X.K E aqr f)
abbrev MA(X:Cx)(E:XD)(es:List Expr)(f:SA):Prop:=PA X es (lift X.K E (b1i X.K) f)
abbrev MS(X:Cx)(E:XD)(st:Stmt)(f:SS):Prop:=PS X st (a9c X.K E f)
abbrev MSs(X:Cx)(E:XD)(st:List Stmt)(f:SS):Prop:=PSs X st (a9c X.K E f)
theorem PE.weak(h:PE X e t)(i:∀Z H Q,t' Z H Q->t Z H Q):PE X e t':=λpins s Z H Q I q=>h pins s Z H Q I (i _ _ _ q)
theorem PT.weak(h:PT X e t)(i:∀Z H Q,t' Z H Q->t Z H Q):PT X e t':=λpins s Z H Q I q=>h pins s Z H Q I (i _ _ _ q)
theorem PW.weak(h:PW X e t)(i:∀Z H Q,t' Z H Q->t Z H Q):PW X e t':=λwh pins s Z H Q I q=>h wh pins s Z H Q I (i _ _ _ q)
theorem PA.weak(h:PA X e t)(i:∀Z H Q,t' Z H Q->t Z H Q):PA X e t':=λpos pins s Z H Q I q=>h pos pins s Z H Q I (i _ _ _ q)
theorem PS.weak(h:PS X e t)(i:∀N Z H,t' N Z H->t N Z H):PS X e t':=λpins s Z H N I q=>h pins s Z H N I (i _ _ _ q)
theorem PSs.weak(h:PSs X e t)(i:∀N Z H,t' N Z H->t N Z H):PSs X e t':=λpins s Z H N I q=>h pins s Z H N I (i _ _ _ q)
abbrev LINE:Nat:=16777216
theorem ll{n:Nat}(h:n<=LINE):n<=sizeLine:=aqo h
def sV(i:Nat):SE:=λτ h=>match τ[i]? with|some (some d)=>.ok d h|_=>.no
def sC(d:D):SE:=λ_ h=>.ok d h
section
variable{X:Cx}{E:XD}{a b c e:Expr}{fa fb fc:SE}{pos:Pos}
theorem bf(i:Nat)(hN:X.N[i]? = some x:=by rfl)(hv:Vis X.env.scope x:=by first|exact Or.inl rfl|exact Or.inr (Or.inl rfl)|exact Or.inr (Or.inr rfl))(hd:(x == ("__debug__" : Str))=false:=by decide)
  (hcd:(x == ("__classdict__" : Str))=false:=by decide):ME X E (.Name x pos) (sV i):=by
 refine PE.weak (atu hN hv hd hcd) ?_
 rintro Z H Q ⟨U,τ,h,S,Rh,o⟩
 unfold sV at o
 split at o
 .rename_i d e;obtain ⟨v,h1,h2⟩:=S.val i d e;exact ⟨v,h1,o U H v (.refl _ _) h2 Rh⟩
 .exact o.elim
theorem auz(h:PE X e (tC v))(r:∀U H,Rep X.K U H v d):ME X E e (sC d) :=
 PE.weak h λZ H Q ⟨U,τ,h,S,Rh,o⟩=>o U H v (.refl _ _) (r U H) Rh
theorem au{i j pos}:ME X E (.Constant (.int i) j pos) (sC (.int i)):=auz atv λ_ _=>.int i
theorem ayz{i j pos}:ME X E (.Constant (.bool i) j pos) (sC (.bl i)):=auz ay9 λ_ _=>.bl i
theorem je{i j pos}:ME X E (.Constant (.str i) j pos) (sC (.str i)):=auz atx λ_ _=>.str i
theorem zg{j pos}:ME X E (.Constant .none j pos) (sC .non):=auz atw λ_ _=>.non
theorem ab8(hg:Gl X x)(hm:X.mg x=none)(hv:bootBuiltins x=some (.type n))(hn:x ≠ "__name__":=by decide)(hd:(x == ("__debug__" : Str))=false:=by decide):ME X E (.Name x pos) (sC (.ty n)) :=
 auz (aq1 (v:=.ty n) hg hm hv rfl hn hd) λ_ _=>.ty n
noncomputable def s2(g:D->D->Hd->R D)(fa fb:SE):SE:=λτ h=>(fa τ h).bind λx h1=>(fb τ h1).bind λy h2=>g x y h2
def s1(g:D->Hd->R D)(fa:SE):SE:=λτ h=>(fa τ h).bind g
def a4w(K:PySem.W.Frag)(g:D->D->Hd->R D)(r:R2):Prop:=∀(E:XD) U H h x y dx dy Q,Rep K U H x dx->Rep K U H y dy->HRep K U H h->out K E (yx K) U H (g dx dy h) Q->r x y H Q
def b1k(K:PySem.W.Frag)(g:D->Hd->R D)(r:V->Hp->VK->Prop):Prop:=∀(E:XD) U H h x dx Q,Rep K U H x dx->HRep K U H h->out K E (yx K) U H (g dx h) Q->r x H Q
def alq(K:PySem.W.Frag)(g:List D->Hd->R D)(r:List V->Hp->VK->Prop):Prop:=∀(E:XD) U H h xs ds Q,Reps K U H xs ds->HRep K U H h->out K E (yx K) U H (g ds h) Q->r xs H Q
theorem axt(hs:a4w K g r)(q:lift K E (yx K) (s2 g fa fb) Z H Q):tOp r (lift K E (yx K) fa) (lift K E (yx K) fb) Z H Q:=by
 obtain ⟨U,τ,h,S,Rh,o⟩:=q;refine ⟨U,τ,h,S,Rh,dh o λd h1 U1 H1 v g1 r1 hr1 o1=>?_⟩;refine ⟨U1,τ,h1,S.mono g1,hr1,dh o1 λd2 h2 U2 H2 u g2 r2 hr2 o2=>?_⟩;exact hs E U2 H2 h2 v u d d2 Q (r1.mono g2) r2 hr2 o2
theorem age(ho:OpR X (binaryOp op) r)(hs:a4w X.K g r)(ha:ME X E a fa)(hb:ME X E b fb):ME X E (.BinOp a op b pos) (s2 g fa fb) :=
 PE.weak (aub ho ha hb) λZ H Q q=>axt hs q
theorem a3m(ho:OpR X (compareOp op) r)(hs:a4w X.K g r)(ha:ME X E a fa)(hb:ME X E b fb)(hm:behindInMarks op b=false):ME X E (.Compare a [op] [b] pos) (s2 g fa fb) :=
 PE.weak (aqa ho ha hb hm) λZ H Q q=>axt hs q
theorem az0(ho:UnR X (unaryOp op) r)(hs:b1k X.K g r)(ha:ME X E a fa):ME X E (.UnaryOp op a pos) (s1 g fa):=by
 refine PE.weak (aym ho ha) ?_
 rintro Z H Q ⟨U,τ,h,S,Rh,o⟩
 exact ⟨U,τ,h,S,Rh,dh o λd h1 U1 H1 v g1 r1 hr1 o1=>hs E U1 H1 h1 v d Q r1 hr1 o1⟩
theorem az1(ho:IxR X r)(hs:a4w X.K g r)(ha:ME X E a fa)(hb:ME X E b fb)(hp:a95 b):ME X E (.Subscript a b pos) (s2 g fa fb) :=
 PE.weak (ays ho ha hb hp) λZ H Q q=>axt hs q
def asB(d:D)(h:Hd):R Bool:=match d with|.bl b=>.ok b h|_=>.no
def sT(f:SE):ST:=λτ h=>(f τ h).bind asB
theorem aid(hi:∀Z H Q,lift K E (yx K) f Z H Q->t Z H Q)(q:lift K E aqr (sT f) Z H Q):aqb t Z H Q:=by
 refine hi Z H _ ?_;obtain ⟨U,τ,h,S,Rh,o⟩:=q;refine ⟨U,τ,h,S,Rh,dh o λd h1 U1 H1 v g1 r1 hr1 o1=>?_⟩
 cases r1 with
 |bl b=>exact ⟨b,rfl,o1 U1 H1 b (.refl _ _) rfl hr1⟩
 |_=>exact o1.elim
theorem a1e(ho:OpR X (compareOp op) r)(hs:a4w X.K g r)(ha:ME X E a fa)(hb:ME X E b fb)(hm:behindInMarks op b=false):MT X E (.Compare a [op] [b] pos) (sT (s2 g fa fb)) :=
 PT.weak (aqc ho ha hb hm) λZ H Q q=>aid (λ_ _ _=>axt hs) q
noncomputable def sCh(g g':D->D->Hd->R D)(fa fb fc:SE):SE:=λτ h=>(fa τ h).bind λx h1=>(fb τ h1).bind λy h2=>(g x y h2).bind λz h3=>match z with
 |.bl true=>(fc τ h3).bind λw h4=>g' y w h4
 |.bl false=>.ok (.bl false) h3
 |_=>.no
theorem av0(hs:a4w K g r)(hs':a4w K g' r')(q:lift K E (yx K) (sCh g g' fa fb fc) Z H Q) :
  aoq r r' (lift K E (yx K) fa) (lift K E (yx K) fb) (lift K E (yx K) fc) Z H Q:=by
 obtain ⟨U,τ,h,S,Rh,o⟩:=q;refine ⟨U,τ,h,S,Rh,dh o λd h1 U1 H1 v g1 r1 hr1 o1=>?_⟩;refine ⟨U1,τ,h1,S.mono g1,hr1,dh o1 λd2 h2 U2 H2 u g2 r2 hr2 o2=>?_⟩;refine hs E U2 H2 h2 v u d d2 _ (r1.mono g2) r2 hr2 (dh o2 λd3 h3 U3 H3 z g3 r3 hr3 o3=>?_)
 cases r3 with
 |bl k =>
  refine ⟨k,rfl,?_⟩
  cases k with
  |true =>
   rw [aE rfl];refine ⟨U3,τ,h3,((S.mono g1).mono g2).mono g3,hr3,dh o3 λd4 h4 U4 H4 w g4 r4 hr4 o4=>?_⟩;exact hs' E U4 H4 h4 u w d2 d4 Q ((r2.mono g3).mono g4) r4 hr4 o4
  |false =>
   rw [aS aX];exact o3 U3 H3 (.bl false) (.refl _ _) (.bl false) hr3
 |_=>exact o3.elim
theorem aeg(ho:OpR X (compareOp op) r)(ho':OpR X (compareOp op') r')(hs:a4w X.K g r)(hs':a4w X.K g' r')(ha:ME X E a fa)(hb:ME X E b fb)(hc:ME X E c fc)
  (hm:lastMarks [op,op'] [b,c]=false:=by with_unfolding_all rfl):MT X E (.Compare a [op,op'] [b,c] pos) (sT (sCh g g' fa fb fc)) :=
 PT.weak (am4 ho ho' ha hb hc hm) λZ H Q q=>aid (λ_ _ _=>av0 hs hs') q
noncomputable def tru(d:D)(h:Hd):R Bool:=match d with
 |.non=>.ok false h
 |.bl b=>.ok b h
 |.int i=>.ok (i != 0) h
 |.str x=>if x.length<=LINE then .ok ((x.length:Int) != 0) h else .no
 |.tup xs=>.ok (!xs.isEmpty) h
 |.rol xs=>.ok (!xs.isEmpty) h
 |.ref i=>match h[i]? with
  |some (.lst xs)=>.ok (!xs.isEmpty) h
  |some (.dK kvs)=>.ok (!kvs.isEmpty) h
  |_=>.no
 |_=>.no
theorem Reps.emp{K:PySem.W.Frag}{U:List Addr}{H:Hp}{vs:List V}{ds:List D}(r:Reps K U H vs ds):vs.isEmpty=ds.isEmpty:=by cases r<;>rfl
theorem KRep.emp{κ:Type}{K:PySem.W.Frag}{U:List Addr}{H:Hp}{us:List (κ×V)}{kvs:List (κ×D)}(r:KRep K U H us kvs):us.isEmpty=kvs.isEmpty:=by
 have:=ah List.length r.1
 cases us<;>cases kvs<;>simp at this ⊢
theorem aqs{K:PySem.W.Frag}{U:List Addr}{H:Hp}{h:Hd}{x:V}{d:D}{Q:Bool->Hp->Prop}(r:Rep K U H x d)(hr:HRep K U H h)(o:out K E aqr U H (tru d h) Q):∃k,ayn K x H k/\Q k H:=by
 cases r with
 |non=>exact ⟨false,rfl,o U H _ (.refl _ _) rfl hr⟩
 |bl b=>exact ⟨b,rfl,o U H _ (.refl _ _) rfl hr⟩
 |int i=>exact ⟨_,rfl,o U H _ (.refl _ _) rfl hr⟩
 |str x =>
  by_cases hl:x.length<=LINE
  .simp only [tru,aE hl] at o;exact ⟨_,⟨ll hl,rfl⟩,o U H _ (.refl _ _) rfl hr⟩
  .simp only [tru,aS hl] at o;exact o.elim
 |ty n=>exact o.elim
 |rod _ _ _=>exact o.elim
 |scr _ _=>exact o.elim
 |rdT _ _ _=>exact o.elim
 |exc _ _ _=>exact o.elim
 |tup e rs=>exact ⟨_,.inr (.inl ⟨_,SqT.of e,rfl⟩),by rw [rs.emp];exact o U H _ (.refl _ _) rfl hr⟩
 |rol e rs=>exact ⟨_,.inl ⟨_,e.l,rfl⟩,by rw [rs.emp];exact o U H _ (.refl _ _) rfl hr⟩
 |@ref a i e =>
  obtain ⟨ob,h1,h2⟩:=hr.at e;simp only [tru,h1] at o
  cases ob with
  |lst xs =>
   obtain ⟨vs,h3,h4⟩:=h2;exact ⟨_,.inl ⟨_,SqL.of h3,rfl⟩,by rw [h4.emp];exact o U H _ (.refl _ _) rfl hr⟩
  |dK kvs =>
   obtain ⟨us,h3,h4⟩:=h2;exact ⟨_,.inr (.inr ⟨_,h3,rfl⟩),by rw [h4.emp];exact o U H _ (.refl _ _) rfl hr⟩
  |dT kvs=>exact o.elim
def aas(f:SE):ST:=λτ h=>(f τ h).bind tru
theorem a6z(ha:ME X E a fa)(he:∀whole,isTrue a X.env whole=(do let v <-whole;standAt a.pos;holding [v] (truthy v)):=by intro _;rfl):MT X E a (aas fa):=by
 refine PT.weak (am5 ha he) ?_
 rintro Z H Q ⟨U,τ,h,S,Rh,o⟩
 exact ⟨U,τ,h,S,Rh,dh o λd h1 U1 H1 v g1 r1 hr1 o1=>aqs r1 hr1 o1⟩
def a8m(f g:ST):ST:=λτ h=>(f τ h).bind λb h1=>if b=true then g τ h1 else .ok false h1
def sOr(f g:ST):ST:=λτ h=>(f τ h).bind λb h1=>if b=true then .ok true h1 else g τ h1
def a8b(f:ST):ST:=λτ h=>(f τ h).bind λb h1=>.ok (!b) h1
variable{ga gb:ST}
theorem a3n(ha:MT X E a ga):MW X E (.BoolOp .And [a] pos) ga:=aq2 ha
theorem a70(ha:MT X E a ga):MW X E (.BoolOp .Or [a] pos) ga:=aty ha
theorem a5r{rest:List Expr}(ha:MT X E a ga)(hb:MW X E (.BoolOp .And (b::rest) pos) gb):MW X E (.BoolOp .And (a::b::rest) pos) (a8m ga gb):=by
 refine PW.weak (atz ha hb) ?_
 rintro Z H Q ⟨U,τ,h,S,Rh,o⟩
 refine ⟨U,τ,h,S,Rh,dh o λd h1 U1 H1 v g1 r1 hr1 o1=>?_⟩;cases r1
 cases d with
 |true=>exact ⟨U1,τ,h1,S.mono g1,hr1,o1⟩
 |false=>exact o1 U1 H1 false (.refl _ _) rfl hr1
theorem a71{rest:List Expr}(ha:MT X E a ga)(hb:MW X E (.BoolOp .Or (b::rest) pos) gb):MW X E (.BoolOp .Or (a::b::rest) pos) (sOr ga gb):=by
 refine PW.weak (aya ha hb) ?_
 rintro Z H Q ⟨U,τ,h,S,Rh,o⟩
 refine ⟨U,τ,h,S,Rh,dh o λd h1 U1 H1 v g1 r1 hr1 o1=>?_⟩;cases r1
 cases d with
 |true=>exact o1 U1 H1 true (.refl _ _) rfl hr1
 |false=>exact ⟨U1,τ,h1,S.mono g1,hr1,o1⟩
theorem a5s(ha:MT X E a ga):MT X E (.UnaryOp .Not a pos) (a8b ga):=by
 refine PT.weak (au0 ha) ?_
 rintro Z H Q ⟨U,τ,h,S,Rh,o⟩
 refine ⟨U,τ,h,S,Rh,dh o λd h1 U1 H1 v g1 r1 hr1 o1=>?_⟩;cases r1
 exact o1 U1 H1 _ (.refl _ _) rfl hr1
noncomputable def a3o(f g:SE):SE:=λτ h=>(f τ h).bind λd h1=>match d with|.bl true=>g τ h1|.bl false=>.ok (.bl false) h1|_=>.no
noncomputable def axu(f g:SE):SE:=λτ h=>(f τ h).bind λd h1=>match d with|.bl true=>.ok (.bl true) h1|.bl false=>g τ h1|_=>.no
def ab9(f:SE):SE:=λτ h=>(f τ h).bind λd h1=>match d with|.bl b=>.ok (.bl (!b)) h1|_=>.no
theorem aeh{op}(ha:ME X E a fa):ME X E (.BoolOp op [a] pos) fa:=au1 ha
theorem aei{rest:List Expr}(ha:ME X E a fa)(hb:ME X E (.BoolOp .And (b::rest) pos) fb):ME X E (.BoolOp .And (a::b::rest) pos) (a3o fa fb):=by
 refine PE.weak (au2 ha hb) ?_
 rintro Z H Q ⟨U,τ,h,S,Rh,o⟩
 refine ⟨U,τ,h,S,Rh,dh o λd h1 U1 H1 v g1 r1 hr1 o1=>?_⟩
 cases r1 with
 |bl k =>
  refine ⟨k,rfl,?_⟩
  cases k with
  |true=>exact ⟨U1,τ,h1,S.mono g1,hr1,o1⟩
  |false=>exact o1 U1 H1 _ (.refl _ _) (.bl _) hr1
 |_=>exact o1.elim
theorem av1(ha:ME X E a fa):ME X E (.UnaryOp .Not a pos) (ab9 fa):=by
 refine PE.weak (au3 ha) ?_
 rintro Z H Q ⟨U,τ,h,S,Rh,o⟩
 refine ⟨U,τ,h,S,Rh,dh o λd h1 U1 H1 v g1 r1 hr1 o1=>?_⟩
 cases r1 with
 |bl k=>exact ⟨k,rfl,o1 U1 H1 _ (.refl _ _) (.bl _) hr1⟩
 |_=>exact o1.elim
def ahi(c:ST)(f g:SE):SE:=λτ h=>(c τ h).bind λb h1=>if b=true then f τ h1 else g τ h1
theorem aox(hc:MT X E c ga)(ha:ME X E a fa)(hb:ME X E b fb):ME X E (.IfExp c a b pos) (ahi ga fa fb):=by
 refine PE.weak (am1 hc ha hb) ?_
 rintro Z H Q ⟨U,τ,h,S,Rh,o⟩
 refine ⟨U,τ,h,S,Rh,dh o λd h1 U1 H1 v g1 r1 hr1 o1=>?_⟩;cases r1
 cases d with
 |true=>exact ⟨U1,τ,h1,S.mono g1,hr1,o1⟩
 |false=>exact ⟨U1,τ,h1,S.mono g1,hr1,o1⟩
def bz:SA:=λ_ h=>.ok [] h
def aj(f:SE)(g:SA):SA:=λτ h=>(f τ h).bind λd h1=>(g τ h1).bind λds h2=>.ok (d::ds) h2
variable{es:List Expr}{ka:SA}
theorem aq:MA X E [] bz:=PA.weak a3a λZ H Q ⟨U,τ,h,S,Rh,o⟩=>o U H [] (.refl _ _) .nil Rh
theorem aa(ha:ME X E e fa)(hr:MA X E es ka)(hs:starEach (e::es) X.env=(false,eval e X.env)::starEach es X.env:=by rfl):MA X E (e::es) (aj fa ka):=by
 refine PA.weak (xf ha hr hs) ?_
 rintro Z H Q ⟨U,τ,h,S,Rh,o⟩
 refine ⟨U,τ,h,S,Rh,dh o λd h1 U1 H1 v g1 r1 hr1 o1=>?_⟩;refine ⟨U1,τ,h1,S.mono g1,hr1,dh o1 λd2 h2 U2 H2 u g2 r2 hr2 o2=>?_⟩;exact o2 U2 H2 _ (.refl _ _) (.cons (r1.mono g2) r2) hr2
def ww(ds:List D)(h:Hd):R D:=if ds.length<=LINE then .ok (.tup ds) h else .no
noncomputable def uz(ds:List D)(h:Hd):R D:=if ds.length<=LINE then .ok (.ref h.length) (h++[.lst ds]) else .no
def sA(g:List D->Hd->R D)(k:SA):SE:=λτ h=>(k τ h).bind g
theorem a3p(r:Reps K U H vs ds)(hr:HRep K U H h)(o:out K E (yx K) U H (.ok (.tup ds) h) Q):∀p,H p=none->Q (.ref p) (upd H p (.tup vs)):=λp hp =>
 o U _ _ (zf hp _) (.tup km (r.mono (zf hp _))) (hr.aside hp _)
theorem yf(r:Reps K U H vs ds)(hr:HRep K U H h)(o:out K E (yx K) U H (.ok (.ref h.length) (h++[.lst ds])) Q):∀p,H p=none->Q (.ref p) (upd H p (.lst vs)):=λp hp =>
 o (U++[p]) _ _ (aef hp _) (.ref (by rw [aB (by rw [hr.len];exact aA _),hr.len];simp)) (hr.add hp ⟨_,km,r.mono (aef hp _)⟩)
theorem acs{K:PySem.W.Frag}{U:List Addr}{H:Hp}{h:Hd}{i:Nat}{a:Addr}{vs:List V}{ds:List D}{d:D}{v:V}{Q:VK}(r:Reps K U H vs ds)(hr:HRep K U H h)(hi:U[i]? = some a)(rd:Rep K U H v d)(o:out K E (yx K) U H (.ok d (h.set i (.lst ds))) Q):Q v (upd H a (.lst vs)) :=
 o U _ _ (a5q hr hi _) (rd.mono (a5q hr hi _)) (hr.put hi ⟨_,km,r.mono (a5q hr hi _)⟩)
theorem qj{x1}(h:MA X E es ka):ME X E (.Tuple es x1 pos) (sA ww ka):=by
 refine PE.weak (auk h) ?_
 rintro Z H Q ⟨U,τ,h,S,Rh,o⟩
 refine ⟨U,τ,h,S,Rh,dh o λd h1 U1 H1 v g1 r1 hr1 o1=>?_⟩;unfold ww at o1
 split at o1
 .rename_i hl;exact ⟨ll (by rw [r1.len];exact hl),a3p r1 hr1 o1⟩
 .exact o1.elim
theorem o8(h:MA X E es ka):ME X E (.List es pos) (sA uz ka):=by
 refine PE.weak (aul h) ?_
 rintro Z H Q ⟨U,τ,h,S,Rh,o⟩
 refine ⟨U,τ,h,S,Rh,dh o λd h1 U1 H1 v g1 r1 hr1 o1=>?_⟩;unfold uz at o1
 split at o1
 .rename_i hl;exact ⟨ll (by rw [r1.len];exact hl),yf r1 hr1 o1⟩
 .exact o1.elim
theorem a4a{x:Str}{p:Pos}{id:String}{r:List V->Hp->VK->Prop}{g:List D->Hd->R D}(hc:CallR X (.builtin id) r)(hs:alq X.K g r)(hg:Gl X x)(hm:X.mg x=none)(hv:bootBuiltins x=some (.builtin id))(ha:MA X E (e::es) ka)(hn:x ≠ "__name__":=by decide)(hdb:(x == ("__debug__" : Str))=false:=by decide)
  (he:starEach (e::es) X.env=(false,eval e X.env)::starEach es X.env:=by rfl) (hpl:(backTo pos (starEach es X.env)).any (·.1)=false:=by rfl):ME X E (.Call (.Name x p) (e::es) [] pos) (sA g ka):=by
 refine PE.weak (a68 hc hg hm hv ha hn hdb he hpl) ?_
 rintro Z H Q ⟨U,τ,h,S,Rh,o⟩
 exact ⟨U,τ,h,S,Rh,dh o λd h1 U1 H1 v g1 r1 hr1 o1=>hs E U1 H1 h1 v d Q r1 hr1 o1⟩
theorem a1f{x:Str}{p:Pos}{id:String}{r:List V->Hp->VK->Prop}{g:List D->Hd->R D}(hc:CallR X (.type id) r)(hs:alq X.K g r)(hg:Gl X x)(hm:X.mg x=none)(hv:bootBuiltins x=some (.type id))(ha:MA X E (e::es) ka)(hn:x ≠ "__name__":=by decide)(hdb:(x == ("__debug__" : Str))=false:=by decide)
  (he:starEach (e::es) X.env=(false,eval e X.env)::starEach es X.env:=by rfl) (hpl:(backTo pos (starEach es X.env)).any (·.1)=false:=by rfl):ME X E (.Call (.Name x p) (e::es) [] pos) (sA g ka):=by
 refine PE.weak (a3y hc hg hm hv ha hn hdb he hpl) ?_
 rintro Z H Q ⟨U,τ,h,S,Rh,o⟩
 exact ⟨U,τ,h,S,Rh,dh o λd h1 U1 H1 v g1 r1 hr1 o1=>hs E U1 H1 h1 v d Q r1 hr1 o1⟩
end
def jg(f g:SS):SS:=λτ h=>match f τ h with|.nx τ1 h1=>g τ1 h1|r=>r
def sNx:SS:=λτ h=>.nx τ h
def o9(f:SE):SS:=λτ h=>(f τ h).fl λd h1=>.rt d h1
def a8c(f:SE):SS:=λτ h=>(f τ h).fl λ_ h1=>.nx τ h1
def sIf(c:ST)(f g:SS):SS:=λτ h=>(c τ h).fl λb h1=>if b=true then f τ h1 else g τ h1
def n6(i:Nat)(f:SE):SS:=λτ h=>(f τ h).fl λd h1=>.nx (τ.set i (some d)) h1
noncomputable def axv(i:Nat)(g:D->D->Hd->R D)(f:SE):SS:=λτ h=>match τ[i]? with
 |some (some x)=>(f τ h).fl λy h1=>(g x y h1).fl λz h2=>.nx (τ.set i (some z)) h2
 |_=>.no
section
variable{X:Cx}{E:XD}{e o:Expr}{es:List Expr}{fa fb fc:SE}{ga:ST}{st:Stmt}{sts a b:List Stmt}{f g:SS}{pos:Pos}
theorem iw:MSs X E [] sNx:=PSs.weak aq3 λN Z H ⟨U,τ,h,S,Rh,o⟩=>o U H Z (.refl _ _) S Rh
theorem av2(q:a9c K E (jg f g) N Z H):a9c K E f {N with nx:=a9c K E g N} Z H:=by
 obtain ⟨U,τ,h,S,Rh,o⟩:=q;refine ⟨U,τ,h,S,Rh,?_⟩;unfold jg at o
 cases hf:f τ h with
 |nx τ1 h1 =>
  rw [hf] at o;exact λU1 H1 Z1 g1 S1 R1=>⟨U1,τ1,h1,S1,R1,xg o g1⟩
 |_=>rw [hf] at o;exact o
theorem ak(h1:MS X E st f)(h2:MSs X E sts g):MSs X E (st::sts) (jg f g):=PSs.weak (am2 h1 h2) λN Z H q=>av2 q
theorem bx(h1:MS X E st f):MSs X E [st] f:=aq4 h1
theorem ie(he:ME X E e fa):MS X E (.Return (some e) pos) (o9 fa):=by
 refine PS.weak (au4 he) ?_
 rintro N Z H ⟨U,τ,h,S,Rh,o⟩
 exact ⟨U,τ,h,S,Rh,a1y o λd h1 U1 H1 v g1 r1 hr1 o1=>o1 U1 H1 v (.refl _ _) r1 hr1⟩
theorem acu(he:ME X E e fa)(hs:swapsWith e none pos.line X.env=pure false:=by rfl):MS X E (.Expr e pos) (a8c fa):=by
 refine PS.weak (aq5 he hs) ?_
 rintro N Z H ⟨U,τ,h,S,Rh,o⟩
 exact ⟨U,τ,h,S,Rh,a1y o λd h1 U1 H1 v g1 r1 hr1 o1=>o1 U1 H1 Z (.refl _ _) (S.mono g1) hr1⟩
theorem mj(hc:MT X E c ga)(ha:MSs X E a f)(hb:MSs X E b g):MS X E (.If c a b pos) (sIf ga f g):=by
 refine PS.weak (ayf hc ha hb) ?_
 rintro N Z H ⟨U,τ,h,S,Rh,o⟩
 refine ⟨U,τ,h,S,Rh,a1y o λd h1 U1 H1 v g1 r1 hr1 o1=>?_⟩;cases r1
 cases d with
 |true=>exact ⟨U1,τ,h1,S.mono g1,hr1,o1⟩
 |false=>exact ⟨U1,τ,h1,S.mono g1,hr1,o1⟩
theorem av3(hN:X.N.Nodup)(hi:X.N[i]? = some x)(hx:Loc X.env.scope x)(he:ME X E e fa)(hs:swapsWith e (some (.Name x pos')) pos.line X.env=pure false:=by rfl)(hf:X.fn x=true\/X.env.scope.names.lookup x=some .local:=by first|exact .inl rfl|exact .inr rfl|assumption) :
  MS X E (.Assign [.Name x pos'] e pos) (n6 i fa):=by
 refine PS.weak (au7 hN hi hx he hs hf) ?_
 rintro N Z H ⟨U,τ,h,S,Rh,o⟩
 exact ⟨U,τ,h,S,Rh,a1y o λd h1 U1 H1 v g1 r1 hr1 o1=>o1 U1 H1 _ (.refl _ _) ((S.mono g1).set r1 i) hr1⟩
noncomputable def put(o k v:D)(h:Hd):Option Hd:=match o,k with
 |.ref i,.int j=>match h[i]? with
  |some (.lst xs)=>match ixN xs.length j with
   |some m=>some (h.set i (.lst (xs.set m v)))
   |none=>none
  |_=>none
 |_,_=>none
theorem aqt{K:PySem.W.Frag}{U:List Addr}{H:Hp}{h h':Hd}{o k v:V}{od kd vd:D}{Q:Hp->Prop}(r1:Rep K U H o od)(r2:Rep K U H k kd)(r3:Rep K U H v vd)(hr:HRep K U H h)(e:put od kd vd h=some h')
  (q:∀H',Gr U H U H'->HRep K U H' h'->Q H'):aur o k v H Q:=by
 cases r1 with
 |@ref a i ha =>
  cases r2 with
  |int j =>
   obtain ⟨ob,h1,h2⟩:=hr.at ha
   cases ob with
   |lst xs =>
    obtain ⟨vs,h3,h4⟩:=h2;simp only [put,h1] at e
    cases hm:ixN xs.length j with
    |none=>rw [hm] at e;cases e
    |some m =>
     rw [hm] at e;cases e
     exact ⟨a,vs,j,m,rfl,rfl,h3,by rw [h4.len];exact hm,q _ (a5q hr ha _) (hr.put ha ⟨_,km,(h4.set r3 m).mono (a5q hr ha _)⟩)⟩
   |dK _=>simp only [put,h1] at e;cases e
   |dT _=>simp only [put,h1] at e;cases e
  |_=>cases e
 |_=>cases e
noncomputable def aej(fe fo fi:SE):SS:=λτ h=>(fe τ h).fl λv h1=>(fo τ h1).fl λo h2=>(fi τ h2).fl λk h3=>match put o k v h3 with|some h4=>.nx τ h4|none=>.no
theorem a72(he:ME X E e fa)(ho:ME X E o fb)(hi:ME X E i fc)
  (hs:swapsWithSole [.Subscript o i pos'] e pos.line X.env=pure false:=by rfl) (hw:swappedStores [.Subscript o i pos'] e X.env=pure none:=by rfl)
  (h1:(assignEach [.Subscript o i pos'] X.env).map (·.2)=[assign (.Subscript o i pos') X.env]:=by rfl)
  (ha:∀v,assign (.Subscript o i pos') X.env v=(do
   let ov <-holding [v] (eval o X.env)
   let iv <-holding [v,ov] (eval i X.env)
   standAt pos'
   holding [v,ov,iv] (setItem ov iv v)
   release [v,ov,iv] []):=by intro _;rfl):MS X E (.Assign [.Subscript o i pos'] e pos) (aej fa fb fc):=by
 refine PS.weak (aop he (au5 ho hi set_list ha) hs hw h1) ?_
 rintro N Z H ⟨U,τ,h,S,Rh,oo⟩
 refine ⟨U,τ,h,S,Rh,a1y oo λd h1 U1 H1 v g1 r1 hr1 o1=>?_⟩;refine ⟨U1,τ,h1,S.mono g1,hr1,a1y o1 λd2 h2 U2 H2 u g2 r2 hr2 o2=>?_⟩;refine ⟨U2,τ,h2,(S.mono g1).mono g2,hr2,a1y o2 λd3 h3 U3 H3 w g3 r3 hr3 o3=>?_⟩
 cases hp:put d2 d3 d h3 with
 |none=>rw [hp] at o3;exact o3.elim
 |some h4 =>
  rw [hp] at o3;exact aqt (r2.mono g3) r3 ((r1.mono g2).mono g3) hr3 hp λH' g4 hr4=>o3 U3 H' Z g4 ((((S.mono g1).mono g2).mono g3).mono g4) hr4
noncomputable def sWh(c:ST)(f:SS):Nat->SS
 |0,_,_=>.no
 |n+1,τ,h=>(c τ h).fl λb h1=>if b=true then (match f τ h1 with|.nx τ2 h2=>sWh c f n τ2 h2|.ct τ2 h2=>sWh c f n τ2 h2|.bk τ2 h2=>.nx τ2 h2|r=>r) else .nx τ h1
theorem amc(n:Nat)(hp:PassesOwn (model X.prog X.w) X.A X.env X.xe)(hc:MT X E c ga)(hb:MSs X E a f):MS X E (.While c a [] pos) (sWh ga f n):=by
 refine PS.weak (am3 hp hc hb) λN Z H q=>?_;refine ⟨λm Z H=>a9c X.K E (sWh ga f m) N Z H,⟨n,q⟩,?_⟩
 rintro m Z1 H1 ⟨U,τ,h,S,Rh,o⟩
 cases m with
 |zero=>exact o.elim
 |succ m =>
  refine ⟨U,τ,h,S,Rh,a1y o λd h1 U1 H1 v g1 r1 hr1 o1=>?_⟩;cases r1
  cases d with
  |false=>exact o1 U1 H1 _ (.refl _ _) (S.mono g1) hr1
  |true =>
   refine ⟨λZ' H'=>a9c X.K E (sWh ga f m) N Z' H',λZ' H' q=>⟨m,eH m,q⟩,U1,τ,h1,S.mono g1,hr1,?_⟩;rw [aE rfl] at o1
   cases hf:f τ h1 with
   |nx τ2 h2=>rw [hf] at o1;exact λU2 H2 Z2 g2 S2 R2=>⟨U2,τ2,h2,S2,R2,xg o1 g2⟩
   |ct τ2 h2=>rw [hf] at o1;exact λU2 H2 Z2 g2 S2 R2=>⟨U2,τ2,h2,S2,R2,xg o1 g2⟩
   |bk τ2 h2=>rw [hf] at o1;exact o1
   |rt d h2=>rw [hf] at o1;exact o1
   |ex c h2=>rw [hf] at o1;exact o1
   |no=>rw [hf] at o1;exact o1.elim
end
abbrev SG:=D->Sd->Hd->Fl
noncomputable def aqu(K:PySem.W.Frag)(E:XD)(g:SG):TG:=λv Z H Q=>∃U τ h d,Rep K U H v d/\SRep K U H Z τ/\HRep K U H h/\alp K E U H (g d τ h) {nx:=Q,rt:=λ_ _=>False}
abbrev MG(X:Cx)(E:XD)(tg:Expr)(g:SG):Prop:=PG X tg (aqu X.K E g)
abbrev SGs:=List D->Sd->Hd->Fl
noncomputable def aie(K:PySem.W.Frag)(E:XD)(g:SGs):TGs:=λvs Z H Q=>∃U τ h ds,Reps K U H vs ds/\SRep K U H Z τ/\HRep K U H h/\alp K E U H (g ds τ h) {nx:=Q,rt:=λ_ _=>False}
abbrev MGs(X:Cx)(E:XD)(tg:List Expr)(g:SGs):Prop:=PGs X tg (aie X.K E g)
theorem PG.weak(h:PG X e t)(i:∀v Z H Q,t' v Z H Q->t v Z H Q):PG X e t':=λpins s Z H v u Q I r q=>h pins s Z H v u Q I r (i _ _ _ _ q)
theorem PGs.weak(h:PGs X e t)(i:∀v Z H Q,t' v Z H Q->t v Z H Q):PGs X e t':=λpins s Z H v u Q I r q=>h pins s Z H v u Q I r (i _ _ _ _ q)
def kN(i:Nat):SG:=λd τ h=>.nx (τ.set i (some d)) h
def ack:SGs:=λds τ h=>match ds with|[]=>.nx τ h|_=>.no
noncomputable def xj(g:SG)(k:SGs):SGs:=λds τ h=>match ds with|d::r=>(match g d τ h with|.nx τ1 h1=>k r τ1 h1|_=>.no)|[]=>.no
noncomputable def aba(n:Nat)(k:SGs):SG:=λd τ h=>match d with|.tup ds=>if ds.length=n then k ds τ h else .no|_=>.no
section
variable{X:Cx}{E:XD}{e:Expr}{es:List Expr}{fa:SE}{pos:Pos}{g:SG}{ks:SGs}
theorem mq(hN:X.N.Nodup)(hi:X.N[i]? = some x)(hx:Loc X.env.scope x)(hf:X.fn x=true\/X.env.scope.names.lookup x=some .local:=by first|exact .inl rfl|exact .inr rfl|assumption):MG X E (.Name x pos) (kN i) :=
 PG.weak (a92 hN hi hx hf) λv Z H Q ⟨U,τ,h,d,r,S,Rh,o⟩=>o U H _ (.refl _ _) (S.set r i) Rh
theorem a3q:MGs X E [] ack:=by
 refine PGs.weak a3h ?_
 rintro vs Z H Q ⟨U,τ,h,ds,r,S,Rh,o⟩
 cases r with
 |nil=>exact ⟨rfl,o U H Z (.refl _ _) S Rh⟩
 |cons _ _=>exact o.elim
theorem amd(q:aie K E (xj g ks) vs Z H Q):acn (aqu K E g) (aie K E ks) vs Z H Q:=by
 obtain ⟨U,τ,h,ds,r,S,Rh,o⟩:=q
 cases r with
 |nil=>exact o.elim
 |@cons v d vs ds r rs =>
  refine ⟨v,vs,rfl,U,τ,h,d,r,S,Rh,?_⟩;simp only [xj] at o
  cases hg:g d τ h with
  |nx τ1 h1 =>
   rw [hg] at o;exact λU1 H1 Z1 g1 S1 R1=>⟨U1,τ1,h1,ds,rs.mono g1,S1,R1,xg o g1⟩
  |_=>rw [hg] at o;exact o.elim
theorem a73(hc:X.calm=true)(h:MGs X E es ks)(hn:(assignEach es X.env).length=n:=by rfl)(hst:(assignEach es X.env).findIdx? (·.1)=none:=by rfl):MG X E (.Tuple es k pos) (aba n ks):=by
 refine PG.weak (a6l hc h hn hst) ?_
 rintro v Z H Q ⟨U,τ,h,d,r,S,Rh,o⟩
 cases r with
 |@tup a vs xs e rs =>
  simp only [aba] at o
  by_cases hl:xs.length=n
  .rw [aE hl] at o;exact ⟨a,vs,rfl,SqT.of e,by rw [rs.len];exact hl,U,τ,h,xs,rs,S,Rh,o⟩
  .rw [aS hl] at o;exact o.elim
 |_=>exact o.elim
noncomputable def aek(f:SE)(g:SG):SS:=λτ h=>(f τ h).fl λd h1=>match g d τ h1 with|.nx τ2 h2=>.nx τ2 h2|_=>.no
theorem a8n(he:ME X E e fa)(hg:MG X E tg g)(hs:swapsWithSole [tg] e pos.line X.env=pure false:=by rfl)(hw:swappedStores [tg] e X.env=pure none:=by rfl)
  (h1:(assignEach [tg] X.env).map (·.2)=[assign tg X.env]:=by rfl):MS X E (.Assign [tg] e pos) (aek fa g):=by
 refine PS.weak (aop he hg hs hw h1) ?_
 rintro N Z H ⟨U,τ,h,S,Rh,o⟩
 refine ⟨U,τ,h,S,Rh,a1y o λd h1 U1 H1 v g1 r1 hr1 o1=>⟨U1,τ,h1,d,r1,S.mono g1,hr1,?_⟩⟩
 cases hg:g d τ h1 with
 |nx τ1 h1=>rw [hg] at o1;exact o1
 |_=>rw [hg] at o1;exact o1.elim
end
structure Itm where
 xs:List D
 ck:Hd->Prop
def alr(K:PySem.W.Frag)(U0:List Addr)(H0:Hp)(J:It)(it:Itm):Prop:=∀U H h,Gr U0 H0 U H->HRep K U H h->it.ck h->
 (∀(i:Nat) (d:D),it.xs[i]? = some d->J.go i H/\∀x H',J.yld i H x H'->Gr U H U H'/\Rep K U H' x d/\HRep K U H' h)/\J.stop it.xs.length H
abbrev av4(K:PySem.W.Frag):List Addr->Hp->It->Itm->Prop:=λU H J it=>alr K U H J it
abbrev SI:=Sd->Hd->R Itm
abbrev MI(X:Cx)(E:XD)(tg iter:Expr)(f:SI):Prop:=PI X tg iter (lift X.K E (av4 X.K) f)
def a1z(x:Str):List D:=x.cps.toList.map λc=>D.str ⟨#[c]⟩
noncomputable def aqv(d:D)(h:Hd):R Itm:=match d with
 |.tup xs=>.ok ⟨xs,λ_=>True⟩ h
 |.rol xs=>.ok ⟨xs,λ_=>True⟩ h
 |.str x=>.ok ⟨a1z x,λ_=>True⟩ h
 |.ref i=>match h[i]? with
  |some (.lst xs)=>.ok ⟨xs,λh=>h[i]? = some (.lst xs)⟩ h
  |_=>.no
 |_=>.no
def sIt(f:SE):SI:=λτ h=>(f τ h).bind aqv
theorem aoy(hl:∀U H h,Gr U0 H0 U H->HRep K U H h->ck h->∃vs,SqL K H a vs/\Reps K U H vs xs):alr K U0 H0 (Itl K a) ⟨xs,ck⟩:=by
 intro U H h g hr c
 obtain ⟨vs,h1,h2⟩:=hl U H h g hr c;refine ⟨λi d e=>?_,⟨vs,h1,by rw [h2.len];exact aA _⟩⟩
 obtain ⟨v,e1,r⟩:=h2.get e;refine ⟨⟨vs,v,h1,e1⟩,λx H' y=>?_⟩;obtain ⟨rfl,y⟩:=y;have:=y vs h1;rw [e1] at this;cases this
 exact ⟨.refl _ _,r,hr⟩
theorem uq(hl:ME X E l f):MI X E tg l (sIt f):=by
 rintro pins s Z H Rr I ⟨U,τ,h,S,Rh,o⟩
 unfold sIt at o
 cases hf:f τ h with
 |no=>rw [hf] at o;exact o.elim
 |ex c h1 =>
  rw [hf] at o;exact aov hl pins s Z H Rr I ⟨U,τ,h,S,Rh,by rw [hf];exact o⟩
 |ok d h1 =>
  rw [hf] at o
  cases d with
  |tup xs =>
   refine au9 hl pins s Z H Rr I ⟨U,τ,h,S,Rh,?_⟩;rw [hf]
   intro U1 H1 v g1 r1 hr1
   cases r1 with
   |@tup a vs _ e rs =>
    refine ⟨a,rfl,⟨vs,SqT.of e⟩,o U1 H1 _ g1 ?_ hr1⟩
    intro U2 H2 h2 g2 hr2 _
    have e2:=g2.tup _ _ e;have rs2:=rs.mono g2;refine ⟨λi d ed=>?_,⟨vs,SqT.of e2,by rw [rs2.len];exact aA _⟩⟩
    obtain ⟨v,e1,r⟩:=rs2.get ed;refine ⟨⟨vs,v,SqT.of e2,e1⟩,λx H' y=>?_⟩;obtain ⟨rfl,y⟩:=y;have:=y vs (SqT.of e2);rw [e1] at this;cases this
    exact ⟨.refl _ _,r,hr2⟩
  |rol xs =>
   refine aht hl pins s Z H Rr I ⟨U,τ,h,S,Rh,?_⟩;rw [hf]
   intro U1 H1 v g1 r1 hr1
   cases r1 with
   |@rol a vs _ e rs =>
    refine ⟨a,rfl,⟨vs,e.l⟩,o U1 H1 _ g1 ?_ hr1⟩;exact aoy (λU2 H2 h2 g2 hr2 _=>⟨vs,(e.mono g2).l,rs.mono g2⟩)
  |str x =>
   refine aov hl pins s Z H Rr I ⟨U,τ,h,S,Rh,?_⟩;rw [hf]
   intro U1 H1 v g1 r1 hr1
   cases r1
   refine ⟨x,rfl,o U1 H1 _ g1 ?_ hr1⟩
   intro U2 H2 h2 g2 hr2 _
   refine ⟨λi d ed=>?_,by show (a1z x).length=_;simp [a1z]⟩
   simp only [a1z,aN,aQ] at ed;obtain ⟨c,ec,rfl⟩:=ed;refine ⟨by show i<x.cps.size;have:=(am.mp ec).1;simpa using this,λy H' q=>?_⟩
   obtain ⟨rfl,c',ec',rfl⟩:=q;rw [ec] at ec';cases ec'
   exact ⟨.refl _ _,.str _,hr2⟩
  |ref i =>
   simp only [R.bind,aqv] at o
   cases ho:h1[i]? with
   |none=>rw [ho] at o;exact o.elim
   |some ob =>
    rw [ho] at o
    cases ob with
    |dK _=>exact o.elim
    |dT _=>exact o.elim
    |lst xs =>
     refine aht hl pins s Z H Rr I ⟨U,τ,h,S,Rh,?_⟩;rw [hf]
     intro U1 H1 v g1 r1 hr1
     cases r1 with
     |@ref a _ e =>
      obtain ⟨vs,e1,rs⟩:=hr1.obj i a _ e ho;refine ⟨a,rfl,⟨vs,SqL.of e1⟩,o U1 H1 _ g1 ?_ hr1⟩;refine aoy (λU2 H2 h2 g2 hr2 c=>?_);obtain ⟨us,e3,rs3⟩:=hr2.obj i a _ (g2.at e) c;exact ⟨us,SqL.of e3,rs3⟩
  |_=>exact o.elim
def rng(lo:Int)(n:Nat):List D:=(List.range n).map λi=>D.int (lo+(i:Nat))
def B62(j:Int):Prop := -(2^62)<=j/\j<2^62
instance (j:Int):Decidable (B62 j):=by unfold B62;exact inferInstance
noncomputable def v4(ds:List D)(h:Hd):R Itm:=match ds with
 |[.int j]=>if B62 j then .ok ⟨rng 0 j.toNat,λ_=>True⟩ h else .no
 |_=>.no
noncomputable def abb(ds:List D)(h:Hd):R Itm:=match ds with
 |[.int i,.int j]=>if B62 i/\B62 j then .ok ⟨rng i (j-i).toNat,λ_=>True⟩ h else .no
 |_=>.no
def sRg(g:List D->Hd->R Itm)(k:SA):SI:=λτ h=>(k τ h).bind g
theorem aoz(lo:Int)(n:Nat):alr K U0 H0 (Itr lo n) ⟨rng lo n,λ_=>True⟩:=by
 intro U H h g hr _
 refine ⟨λi d ed=>?_,by show n<=(rng lo n).length;simp [rng]⟩
 simp only [rng,aN,aQ] at ed;obtain ⟨j,ej,rfl⟩:=ed;obtain ⟨hj,e⟩:=am.mp ej;simp at e hj;subst e;refine ⟨hj,λy H' q=>?_⟩;obtain ⟨rfl,rfl⟩:=q;exact ⟨.refl _ _,.int _,hr⟩
theorem wg(hg:Gl X "range")(hm:X.mg "range" = none)(ha:MA X E [a] k)(hs:starEach [a] X.env=[(false,eval a X.env)]:=by rfl):MI X E tg (.Call (.Name "range" p) [a] [] pos) (sRg v4 k):=by
 rintro pins s Z H Rr I ⟨U,τ,h,S,Rh,o⟩
 refine ahu hg hm ha hs pins s Z H Rr I ⟨U,τ,h,S,Rh,dh o λds h1 U1 H1 vs g1 r1 hr1 o1=>?_⟩;unfold v4 at o1
 split at o1
 .rename_i j
  cases r1 with
  |cons r rs =>
   cases r;cases rs
   by_cases hb:B62 j
   .rw [aE hb] at o1;exact ⟨j,rfl,hb.1,hb.2,o1 U1 H1 _ (.refl _ _) (aoz 0 j.toNat) hr1⟩
   .rw [aS hb] at o1;exact o1.elim
 .exact o1.elim
theorem aqw(hg:Gl X "range")(hm:X.mg "range" = none)(ha:MA X E [a,b] k)(hs:starEach [a,b] X.env=[(false,eval a X.env),(false,eval b X.env)]:=by rfl)(hs2:starEach [b] X.env=[(false,eval b X.env)]:=by rfl):MI X E tg (.Call (.Name "range" p) [a,b] [] pos) (sRg abb k):=by
 rintro pins s Z H Rr I ⟨U,τ,h,S,Rh,o⟩
 refine ahv hg hm ha hs hs2 pins s Z H Rr I ⟨U,τ,h,S,Rh,dh o λds h1 U1 H1 vs g1 r1 hr1 o1=>?_⟩;unfold abb at o1
 split at o1
 .rename_i i j
  cases r1 with
  |cons r rs =>
   cases r
   cases rs with
   |cons r rs =>
   cases r;cases rs
   by_cases hb:B62 i/\B62 j
   .rw [aE hb] at o1;exact ⟨i,j,rfl,⟨hb.1.1,hb.1.2,hb.2.1,hb.2.2⟩,o1 U1 H1 _ (.refl _ _) (aoz i _) hr1⟩
   .rw [aS hb] at o1;exact o1.elim
 .exact o1.elim
open Classical in
def forL(ck:Hd->Prop)(g:SG)(b:SS):List D->Sd->Hd->Fl
 |[],τ,h=>if ck h then .nx τ h else .no
 | x::xs,τ,h=>if ck h then (match g x τ h with
   |.nx τ1 h1=>(match b τ1 h1 with
    |.nx τ2 h2=>forL ck g b xs τ2 h2
    |.ct τ2 h2=>forL ck g b xs τ2 h2
    |.bk τ2 h2=>.nx τ2 h2
    |r=>r)
   |_=>.no) else .no
def a8o(f:SI)(g:SG)(b:SS):SS:=λτ h=>(f τ h).fl λit h1=>forL it.ck g b it.xs τ h1
theorem aqx(ir:alr K U0 H0 J it)(S:SRep K U0 H0 Z0 τ0)(Rh:HRep K U0 H0 h0)(o:alp K E U0 H0 (forL it.ck g b it.xs τ0 h0) N) :
  ∃W:Nat->Nat->St->Hp->Prop,(∃m,W 0 m Z0 H0)/\∀i m Z H,W i m Z H->
   (J.stop i H/\N.nx Z H)\/(J.go i H/\∃M:St->Hp->Prop,(∀Z' H',M Z' H'->∃m',m'<m/\W (i+1) m' Z' H')/\∀x H',J.yld i H x H'->aqu K E g x Z H' λZ2 H2=>a9c K E b {N with nx:=M,ct:=M,bk:=N.nx} Z2 H2):=by
 refine ⟨λi m Z H=>m=it.xs.length-i/\i<=it.xs.length/\∃U τ h,Gr U0 H0 U H/\SRep K U H Z τ/\HRep K U H h/\alp K E U H (forL it.ck g b (it.xs.drop i) τ h) N,⟨_,rfl,bq _,U0,τ0,h0,.refl _ _,S,Rh,o⟩,?_⟩
 rintro i m Z H ⟨rfl,hi,U,τ,h,g0,S,Rh,o⟩
 by_cases hlt:i<it.xs.length
 .rw [bT hlt,forL] at o
  by_cases hc:it.ck h
  .rw [aE hc] at o;obtain ⟨go,yl⟩:=(ir U H h g0 Rh hc).1 i _ (ag hlt);refine .inr ⟨go,λZ' H'=>it.xs.length-(i+1)<it.xs.length-i/\∃U τ h,Gr U0 H0 U H'/\SRep K U H' Z' τ/\HRep K U H' h/\alp K E U H' (forL it.ck g b (it.xs.drop (i+1)) τ h) N,λZ' H' q=>⟨_,q.1,rfl,hlt,q.2⟩,λx H' y=>?_⟩;obtain ⟨g1,r1,hr1⟩:=yl x H' y;refine ⟨U,τ,h,_,r1,S.mono g1,hr1,?_⟩;have o':=xg o g1
   cases hg:g it.xs[i] τ h with
   |nx τ1 h1 =>
    rw [hg] at o';dsimp only at o'
    intro U2 H2 Z2 g2 S2 R2
    refine ⟨U2,τ1,h1,S2,R2,?_⟩;have o2:=xg o' g2;have gg:=(g0.trans g1).trans g2
    cases hb:b τ1 h1 with
    |nx τ2 h2=>rw [hb] at o2;exact λU3 H3 Z3 g3 S3 R3=>⟨by omega,U3,τ2,h2,gg.trans g3,S3,R3,xg o2 g3⟩
    |ct τ2 h2=>rw [hb] at o2;exact λU3 H3 Z3 g3 S3 R3=>⟨by omega,U3,τ2,h2,gg.trans g3,S3,R3,xg o2 g3⟩
    |bk τ2 h2=>rw [hb] at o2;exact o2
    |rt d h2=>rw [hb] at o2;exact o2
    |ex c h2=>rw [hb] at o2;exact o2
    |no=>rw [hb] at o2;exact o2.elim
   |_=>rw [hg] at o';exact o'.elim
  .rw [aS hc] at o;exact o.elim
 .have e:i=it.xs.length:=by omega
  subst e;rw [bJ (aA _),forL] at o
  by_cases hc:it.ck h
  .rw [aE hc] at o;exact .inl ⟨(ir U H h g0 Rh hc).2,o U H Z (.refl _ _) S Rh⟩
  .rw [aS hc] at o;exact o.elim
theorem a0n{X:Cx}(hp:PassesOwn (model X.prog X.w) X.A X.env X.xe)(hc:X.calm=true)(hi:MI X E tg iter f)(hg:MG X E tg g)(hb:MSs X E body b)(hs:∀x,foldedSetIterable iter X.env x=pure x:=by intro _;rfl):MS X E (.For tg iter body [] pos) (a8o f g b):=by
 refine PS.weak (aua hp hc hi hg hb hs) ?_
 rintro N Z H ⟨U,τ,h,S,Rh,o⟩
 exact ⟨U,τ,h,S,Rh,a1y o λit h1 U1 H1 J g1 r1 hr1 o1=>aqx r1 (S.mono g1) hr1 o1⟩
end MI
namespace MI
open L2
theorem R.bind_assoc{α β γ:Type}(r:R α)(f:α->Hd->R β)(g:β->Hd->R γ):(r.bind f).bind g=r.bind λa h=>(f a h).bind g:=by cases r<;>rfl
open Classical in
def mapR(ck:Hd->Prop)(f:D->Hd->R D):List D->Hd->R (List D)
 |[],h=>if ck h then .ok [] h else .no
 |x::xs,h=>if ck h then (f x h).bind λy h1=>(mapR ck f xs h1).bind λys h2=>.ok (y::ys) h2 else .no
open Classical in
def als(ck:Hd->Prop)(f:D->Hd->R (Option D)):List D->Hd->R (List D)
 |[],h=>if ck h then .ok [] h else .no
 |x::xs,h=>if ck h then (f x h).bind λy h1=>(als ck f xs h1).bind λys h2=>.ok (y.toList++ys) h2 else .no
def frs'(ix:List Nat)(τ:Sd):Sd:=ix.map λi=>(τ[i]?).join
def t1(d:D):Option Sd:=some [some d]
noncomputable def tN(n:Nat)(d:D):Option Sd:=match d with|.tup ds=>if ds.length=n then some (ds.map some) else none|_=>none
noncomputable def a2y(t:D->Option Sd)(fe:SE)(rest:Sd)(x:D)(h:Hd):R D:=match t x with|some ts=>fe (ts++rest) h|none=>.no
noncomputable def acv(t:D->Option Sd)(c:ST)(fe:SE)(rest:Sd)(x:D)(h:Hd):R (Option D):=match t x with
 |some ts=>(c (ts++rest) h).bind λb h1=>if b=true then (fe (ts++rest) h1).bind λy h2=>.ok (some y) h2 else .ok none h1
 |none=>.no
def ael(yd zs:List D)(h:Hd):R D:=.ok (.ref h.length) (h++[.lst (yd++zs)])
theorem av5(r:R D)(m:Hd->R (List D))(yd:List D):(r.bind λy h1=>(m h1).bind λys h2=>.ok (y::ys) h2).bind (ael yd)=r.bind λy h1=>(m h1).bind (ael (yd++[y])):=by
 cases r with
 |ok y h1 =>
  show ((m h1).bind _).bind _=(m h1).bind _
  cases m h1 with
  |ok ys h2=>simp [R.bind,ael]
  |_=>rfl
 |_=>rfl
theorem az2(r:R (Option D))(m:Hd->R (List D))(yd:List D):(r.bind λy h1=>(m h1).bind λys h2=>.ok (y.toList++ys) h2).bind (ael yd)=r.bind λy h1=>(m h1).bind (ael (yd++y.toList)):=by
 cases r with
 |ok y h1 =>
  show ((m h1).bind _).bind _=(m h1).bind _
  cases m h1 with
  |ok ys h2=>simp [R.bind,ael]
  |_=>rfl
 |_=>rfl
def m5(fi:SI)(t:D->Option Sd)(fe:SE)(ix:List Nat):SE:=λτ h=>(fi τ h).bind λit h1=>if it.xs.length<=LINE then (mapR it.ck (a2y t fe (frs' ix τ)) it.xs h1).bind (ael []) else .no
def a8p(fi:SI)(t:D->Option Sd)(c:ST)(fe:SE)(ix:List Nat):SE:=λτ h=>(fi τ h).bind λit h1=>if it.xs.length<=LINE then (als it.ck (acv t c fe (frs' ix τ)) it.xs h1).bind (ael []) else .no
def ahj(K:PySem.W.Frag)(n:Nat)(g:TG)(t:D->Option Sd):Prop:=∀U H v d ts (r:St) (Q:St->Hp->Prop),Rep K U H v d->t d=some ts->(∀us:St,us.length=n->SRep K U H us ts->Q (us++r) H)->g v (List.replicate n none++r) H Q
theorem a69:SRep K U H [] []:=⟨rfl,λi d e=>by simp at e⟩
theorem vg(r:Rep K U H v d)(s:SRep K U H Z τ):SRep K U H (some v::Z) (some d::τ):=by
 refine ⟨by simp [s.len],λi d' e=>?_⟩
 cases i with
 |zero=>simp at e;subst e;exact ⟨v,rfl,r⟩
 |succ i=>simpa using s.val i d' (by simpa using e)
theorem a6a(s:SRep K U H Z τ)(s':SRep K U H Z' τ'):SRep K U H (Z++Z') (τ++τ'):=by
 refine ⟨by simp [s.len,s'.len],λi d e=>?_⟩
 by_cases hi:i<τ.length
 .rw [aP hi] at e;rw [aP (by rw [s.len];exact hi)]
  exact s.val i d e
 .rw [aB (by omega)] at e
  rw [aB (by rw [s.len];omega),s.len]
  exact s'.val _ d e
theorem a6b(s:SRep K U H Z τ)(ix:List Nat):SRep K U H (ix.map λi=>(Z[i]?).join) (frs' ix τ):=by
 refine ⟨by simp [frs'],λj d e=>?_⟩
 simp only [frs',aN,aQ] at e;obtain ⟨i,hi,e⟩:=e;have:τ[i]? = some (some d):=by
  cases q:τ[i]? with
  |none=>rw [q] at e;cases e
  |some o=>rw [q] at e;simp at e;rw [e]
 obtain ⟨v,h1,h2⟩:=s.val i d this;exact ⟨v,by simp [hi,h1],h2⟩
theorem vh:ahj K 1 (a1d 0) t1:=λU H v d ts r Q hr e q=>by
 cases e
 exact q [some v] rfl (vg hr a69)
theorem aif{α:Type}{xs:List α}(h:xs.length=n+1):∃x ys,xs=x::ys:=by cases xs with|nil=>cases h|cons x ys=>exact ⟨x,ys,rfl⟩
theorem abd{vs:List V}{d:D}{ds:List D}(r:Reps K U H vs (d::ds)):∃v us,vs=v::us/\Rep K U H v d/\Reps K U H us ds:=by cases r with|cons r rs=>exact ⟨_,_,rfl,r,rs⟩
theorem abe:ahj K 2 (L2.ww K 2 (acn (a1d 0) (acn (a1d 1) ayh))) (tN 2):=λU H v d ts r Q hr e q=>by
 unfold tN at e
 cases hr with
 |@tup a vs xs h rs =>
  simp only at e
  split at e
  .rename_i hl;cases e
   obtain ⟨x1,xs,rfl⟩:=aif hl;obtain ⟨x2,xs,rfl⟩:=aif (dP hl);obtain rfl:=cV.mp (dP (dP hl));obtain ⟨v1,vs,rfl,r1,rs⟩:=abd rs;obtain ⟨v2,vs,rfl,r2,rs⟩:=abd rs;cases rs
   exact ⟨a,_,rfl,SqT.of h,rfl,_,_,rfl,_,_,rfl,rfl,q [some _,some _] rfl (vg r1 (vg r2 a69))⟩
  .cases e
 |_=>cases e
theorem ame:ahj K 3 (L2.ww K 3 (acn (a1d 0) (acn (a1d 1) (acn (a1d 2) ayh)))) (tN 3):=λU H v d ts r Q hr e q=>by
 unfold tN at e
 cases hr with
 |@tup a vs xs h rs =>
  simp only at e
  split at e
  .rename_i hl;cases e
   obtain ⟨x1,xs,rfl⟩:=aif hl;obtain ⟨x2,xs,rfl⟩:=aif (dP hl);obtain ⟨x3,xs,rfl⟩:=aif (dP (dP hl));obtain rfl:=cV.mp (dP (dP (dP hl)));obtain ⟨v1,vs,rfl,r1,rs⟩:=abd rs;obtain ⟨v2,vs,rfl,r2,rs⟩:=abd rs;obtain ⟨v3,vs,rfl,r3,rs⟩:=abd rs;cases rs
   exact ⟨a,_,rfl,SqT.of h,rfl,_,_,rfl,_,_,rfl,_,_,rfl,rfl,q [some _,some _,some _] rfl (vg r1 (vg r2 (vg r3 a69)))⟩
  .cases e
 |_=>cases e
theorem aig{us:St}(h:us.length=n):L2.Ext (List.replicate n none++r) (us++r):=by
 refine ⟨by simp [h],λi v e=>?_⟩
 by_cases hi:i<n
 .rw [aP (by simpa using hi),dB,aE hi] at e
  cases e
 .rw [aB (by simpa using hi),cG] at e
  rw [aB (by omega),h]
  exact e
theorem aem(ir:alr K U0 H0 J it)(tg:ahj K n g t)(S:SRep K U0 H0 r rd)(Rh:HRep K U0 H0 h0)(hl:it.xs.length<=LINE)
  (o:out K E (yx K) U0 H0 ((mapR it.ck (a2y t fe rd) it.xs h0).bind (ael [])) Q):ama J (List.replicate n none++r) g (lift K E (yx K) fe) Q H0:=by
 refine ⟨λi m ys H=>m=it.xs.length-i/\i<=it.xs.length/\ys.length<=i/\∃U h yd,Gr U0 H0 U H/\HRep K U H h/\Reps K U H ys yd/\out K E (yx K) U H ((mapR it.ck (a2y t fe rd) (it.xs.drop i) h).bind (ael yd)) Q,
  ⟨_,rfl,bq _,bq _,U0,h0,[],.refl _ _,Rh,.nil,o⟩,?_⟩
 rintro i m ys H ⟨rfl,hi,hy,U,h,yd,g0,Rh,ry,o⟩
 by_cases hlt:i<it.xs.length
 .rw [bT hlt,mapR] at o
  by_cases hc:it.ck h
  .rw [aE hc,av5] at o;obtain ⟨go,yl⟩:=(ir U H h g0 Rh hc).1 i _ (ag hlt);refine .inr ⟨go,Nat.lt_of_le_of_lt hy (aM hlt (ll hl)),λx H' y=>?_⟩;obtain ⟨g1,r1,hr1⟩:=yl x H' y;have o':=zr o g1
   cases ht:t it.xs[i] with
   |none=>simp only [a2y,ht] at o';exact o'.elim
   |some ts =>
    simp only [a2y,ht] at o';refine tg U H' x _ ts r _ r1 ht λus hus su=>⟨aig hus,U,ts++rd,h,a6a su (S.mono (g0.trans g1)),hr1,dh o' λd2 h2 U2 H2 u g2 r2 hr2 o2=>?_⟩;refine ⟨it.xs.length-(i+1),by omega,rfl,hlt,by simp;omega,U2,h2,yd++[d2],(g0.trans g1).trans g2,hr2,((ry.mono g1).mono g2).snoc r2,o2⟩
  .rw [aS hc] at o;exact o.elim
 .have e:i=it.xs.length:=by omega
  subst e;rw [bJ (aA _),mapR] at o
  by_cases hc:it.ck h
  .rw [aE hc] at o;refine .inl ⟨(ir U H h g0 Rh hc).2,yf (E:=E) ry Rh ?_⟩;simpa [R.bind,ael] using o
  .rw [aS hc] at o;exact o.elim
theorem aih(ir:alr K U0 H0 J it)(tg:ahj K n g t)(S:SRep K U0 H0 r rd)(Rh:HRep K U0 H0 h0)(hl:it.xs.length<=LINE)
  (o:out K E (yx K) U0 H0 ((als it.ck (acv t c fe rd) it.xs h0).bind (ael [])) Q):a99 J (List.replicate n none++r) g (lift K E aqr c) (lift K E (yx K) fe) Q H0:=by
 refine ⟨λi m ys H=>m=it.xs.length-i/\i<=it.xs.length/\ys.length<=i/\∃U h yd,Gr U0 H0 U H/\HRep K U H h/\Reps K U H ys yd/\out K E (yx K) U H ((als it.ck (acv t c fe rd) (it.xs.drop i) h).bind (ael yd)) Q,
  ⟨_,rfl,bq _,bq _,U0,h0,[],.refl _ _,Rh,.nil,o⟩,?_⟩
 rintro i m ys H ⟨rfl,hi,hy,U,h,yd,g0,Rh,ry,o⟩
 by_cases hlt:i<it.xs.length
 .rw [bT hlt,als] at o
  by_cases hc:it.ck h
  .rw [aE hc,az2] at o;obtain ⟨go,yl⟩:=(ir U H h g0 Rh hc).1 i _ (ag hlt);refine .inr ⟨go,Nat.lt_of_le_of_lt hy (aM hlt (ll hl)),λx H' y=>?_⟩;obtain ⟨g1,r1,hr1⟩:=yl x H' y;have o':=zr o g1
   cases ht:t it.xs[i] with
   |none=>simp only [acv,ht] at o';exact o'.elim
   |some ts =>
    simp only [acv,ht] at o';rw [R.bind_assoc] at o';refine tg U H' x _ ts r _ r1 ht λus hus su=>⟨aig hus,U,ts++rd,h,a6a su (S.mono (g0.trans g1)),hr1,dh o' λb h1 U1 H1 b' g2 rb hrb ob=>?_⟩;have su1:SRep K U1 H1 (us++r) (ts++rd):=(a6a su (S.mono (g0.trans g1))).mono g2;cases rb
    cases b with
    |true =>
     rw [aE rfl] at ob ⊢;rw [R.bind_assoc] at ob;refine ⟨U1,ts++rd,h1,su1,hrb,dh ob λd2 h2 U2 H2 u g3 r2 hr2 o2=>?_⟩;refine ⟨it.xs.length-(i+1),by omega,rfl,hlt,by simp;omega,U2,h2,yd++[d2],((g0.trans g1).trans g2).trans g3,hr2,(((ry.mono g1).mono g2).mono g3).snoc r2,?_⟩
     simpa [R.bind] using o2
    |false =>
     rw [aS aX] at ob ⊢;refine ⟨it.xs.length-(i+1),by omega,rfl,hlt,by omega,U1,h1,yd,(g0.trans g1).trans g2,hrb,(ry.mono g1).mono g2,?_⟩
     simpa [R.bind] using ob
  .rw [aS hc] at o;exact o.elim
 .have e:i=it.xs.length:=by omega
  subst e;rw [bJ (aA _),als] at o
  by_cases hc:it.ck h
  .rw [aE hc] at o;refine .inl ⟨(ir U H h g0 Rh hc).2,yf (E:=E) ry Rh ?_⟩;simpa [R.bind,ael] using o
  .rw [aS hc] at o;exact o.elim
section
variable{X:Cx}{E:XD}{elt tg iter cnd:Expr}{scope:Scope}{pos:Pos}{cl:List (Str×Addr)}{ts fr:List Str}{ix:List Nat}{fi:SI}{g:TG}{t:D->Option Sd}{fe:SE}{fc:ST}
theorem yg(hc:X.calm=true)(S:CSc X scope cl ts fr ix)(hi:MI X E tg iter fi)(hg:∀C fp s H,PG (cxC X (ts++fr) scope cl C fp s H) tg g)(ht:ahj X.K ts.length g t)(he:∀C fp s H,ME (cxC X (ts++fr) scope cl C fp s H) E elt fe)
  (hs:∀x,foldedSetIterable iter X.env x=pure x:=by intro _;rfl):ME X E (.ListComp elt [⟨tg,iter,[],0⟩] scope pos) (m5 fi t fe ix):=by
 refine PE.weak (amb (te:=lift X.K E (yx X.K) fe) hc S hi hg he hs) ?_
 rintro Z H Q ⟨U,τ,h,Sr,Rh,o⟩
 refine ⟨U,τ,h,Sr,Rh,dh o λit h1 U1 H1 J g1 r1 hr1 o1=>?_⟩
 by_cases hl:it.xs.length<=LINE
 .rw [aE hl] at o1;exact aem r1 ht (a6b (Sr.mono g1) ix) hr1 hl o1
 .rw [aS hl] at o1;exact o1.elim
end
mutual
def clo(n:Nat):D->Prop
 |.tup xs=>clos n xs
 |.rol xs=>clos n xs
 |.rod _ xs=>clos n xs
 |.scr xs=>clos n xs
 |.rdT _ xs=>clos n xs
 |.ref i=>i<n
 |_=>True
def clos(n:Nat):List D->Prop
 |[]=>True
 |x::xs=>clo n x/\clos n xs
end
mutual
theorem Rep.clo:∀{v:V} {d:D},Rep K U H v d->clo U.length d
 |_,_,.non=>by simp [MI.clo]
 |_,_,.bl b=>by simp [MI.clo]
 |_,_,.int i=>by simp [MI.clo]
 |_,_,.str x=>by simp [MI.clo]
 |_,_,.ty n=>by simp [MI.clo]
 |_,_,.tup h r=>by simp only [MI.clo];exact Reps.clo r
 |_,_,.rol h r=>by simp only [MI.clo];exact Reps.clo r
 |_,_,.ref h=>by simp only [MI.clo];exact (am.mp h).1
 |_,_,.rod h e r=>by simp only [MI.clo];exact Reps.clo r
 |_,_,.scr h r=>by simp only [MI.clo];exact Reps.clo r
 |_,_,.rdT h e r=>by simp only [MI.clo];exact Reps.clo r
 |_,_,.exc h hc hn=>by simp [MI.clo]
theorem Reps.clo:∀{vs:List V} {ds:List D},Reps K U H vs ds->clos U.length ds
 |_,_,.nil=>by simp [MI.clos]
 |_,_,.cons r rs=>by simp only [MI.clos];exact ⟨Rep.clo r,Reps.clo rs⟩
end
mutual
theorem Rep.cut:∀{v:V} {d:D},Rep K U H v d->clo n d->Rep K (U.take n) H v d
 |_,_,.non,_=>.non
 |_,_,.bl b,_=>.bl b
 |_,_,.int i,_=>.int i
 |_,_,.str x,_=>.str x
 |_,_,.ty n,_=>.ty n
 |_,_,.tup h r,c=>.tup h (Reps.cut r (by simpa only [MI.clo] using c))
 |_,_,.rol h r,c=>.rol h (Reps.cut r (by simpa only [MI.clo] using c))
 |_,_,.ref h,c=>.ref (by simp only [MI.clo] at c;rw [fK,aE c];exact h)
 |_,_,.rod h e r,c=>.rod h e (Reps.cut r (by simpa only [MI.clo] using c))
 |_,_,.scr h r,c=>.scr h (Reps.cut r (by simpa only [MI.clo] using c))
 |_,_,.rdT h e r,c=>.rdT h e (Reps.cut r (by simpa only [MI.clo] using c))
 |_,_,.exc h hc hn,_=>.exc h hc hn
theorem Reps.cut:∀{vs:List V} {ds:List D},Reps K U H vs ds->clos n ds->Reps K (U.take n) H vs ds
 |_,_,.nil,_=>.nil
 |_,_,.cons r rs,c=>by simp only [MI.clos] at c;exact .cons (Rep.cut r c.1) (Reps.cut rs c.2)
end
def ux(n:Nat):O->Prop
 |.lst xs=>clos n xs
 |.dK kvs=>clos n (kvs.map (·.2))
 |.dT kvs=>clos n (kvs.map (·.2))
def av6(n:Nat)(h:Hd):Prop:=∀o∈h,ux n o
theorem ORep.clo(r:ORep K U H a o):ux U.length o:=by
 cases o with
 |lst xs=>obtain ⟨vs,_,r⟩:=r;exact r.clo
 |dK kvs=>obtain ⟨us,_,_,r⟩:=r;exact r.clo
 |dT kvs=>obtain ⟨us,_,_,r⟩:=r;exact r.clo
theorem ORep.cut(r:ORep K U H a o)(c:ux n o):ORep K (U.take n) H a o:=by
 cases o with
 |lst xs=>obtain ⟨vs,h,r⟩:=r;exact ⟨vs,h,r.cut c⟩
 |dK kvs=>obtain ⟨us,h,e,r⟩:=r;exact ⟨us,h,e,r.cut c⟩
 |dT kvs=>obtain ⟨us,h,e,r⟩:=r;exact ⟨us,h,e,r.cut c⟩
theorem HRep.clo(r:HRep K U H h):av6 h.length h:=λo ho=>by
 obtain ⟨i,hi⟩:=cO ho;obtain ⟨a,_,q⟩:=r.addr hi;rw [<-r.len];exact q.clo
theorem HRep.cut(r:HRep K U H (h++g))(c:av6 h.length h):HRep K (U.take h.length) H h:=by
 refine ⟨r.nd.sublist (i6 _ _),?_,λi a o e1 e2=>?_⟩
 .have:=r.len
  rw [av] at this;rw [bg];omega
 .have hi:i<h.length:=(am.mp e2).1;rw [fK,aE hi] at e1;exact (r.obj i a o e1 (by rw [aP hi];exact e2)).cut (c o (bv e2))
def X0:XD:=λ_ _ _ _=>False
abbrev SF:=List D->Hd->R D
noncomputable def qd(K:PySem.W.Frag)(n:Nat)(F:SF):Sp:=λvs H Q _=>vs.length=n/\∃U ds h,Reps K U H vs ds/\HRep K U H h/\out K X0 (yx K) U H (F ds h) Q
def a4b(n:Nat)(ds:List D):Sd:=ds.map some++List.replicate (n-ds.length) none
noncomputable def qb(b:SS)(n:Nat)(ds:List D)(h:Hd):R D:=match b (a4b n ds) h with
 |.rt d h1=>.ok d h1
 |.nx _ h1=>.ok .non h1
 |.ex c h1=>.ex c h1
 |_=>.no
def Rf(n:Nat)(r' r:R D):Prop:=match r with
 |.no=>True
 |.ok d h1=>∃g,r'=.ok d (h1++g)/\(g=[]\/(n<=h1.length/\clo h1.length d/\av6 h1.length h1))
 |.ex c h1=>∃g,r'=.ex c (h1++g)/\(g=[]\/(n<=h1.length/\av6 h1.length h1))
theorem Rf.same(h:r'=r):Rf n r' r:=by
 subst h
 cases r' with
 |ok d h1=>exact ⟨[],by simp,.inl rfl⟩
 |ex c h1=>exact ⟨[],by simp,.inl rfl⟩
 |no=>exact True.intro
theorem agf(r:Reps K U H vs ds):SRep K U H (start N vs) (a4b N.length ds):=by
 refine a6a ?_ ?_
 .clear N
  induction r using Reps.rec (motive_1:=λ_ _ _=>True) with
  |nil=>exact a69
  |cons r rs _ ih=>exact vg r ih
  |_=>trivial
 .rw [r.len];exact ⟨by simp,λi d e=>by rw [dB] at e;split at e<;>cases e⟩
theorem ap0(g:Gr U H U' H')(hn:U.length<=n):Gr U H (U'.take n) H':=by
 obtain ⟨m,rfl,hm⟩:=g.pre;exact ⟨⟨m.take (n-U.length),by rw [List.take_append,bV hn],λa ha=>hm a (eZ ha)⟩,g.tup,g.frz,g.oth,g.kp⟩
section
variable{P:Program}{w:World}{K:PySem.W.Frag}{mg:Str->Option Value}{base:Heap}
theorem av7(Fu:Fun K x qual st f fd)(S:FnScope N ps (dj st))
  (hb:∀(cdv:Value) (A:Around) (outer:List Env) (s:Shared) (H:Hp) (E:XK),Room k (A.deeper (PyProof.Rows.envOfC qual (dj st) s.heap.objs.size f cdv))->MSs (alo CX0 P w K mg base N qual (dj st) f cdv A outer s H E).nox X0 (yw st) b)
  (hF:∀ds h,ds.length=ps.length->clos h.length ds->av6 h.length h->Rf h.length (qb b N.length ds h) (F ds h)):FnOk P w K mg base CX0 (k+1) f fd ps (qd K ps.length F):=by
 refine Fu.ok S (λvs H Q E h=>h.1) λcdv A outer s H vs Q E hr h=>⟨_,hb cdv A outer s H E hr,?_⟩;obtain ⟨hl,U,ds,h,r,hr',o⟩:=h;refine ⟨U,a4b N.length ds,h,agf r,hr',?_⟩;have q:=hF ds h (by rw [<-r.len];exact hl) (by rw [<-hr'.len];exact r.clo) hr'.clo
 unfold qb at q
 cases hFd:F ds h with
 |no=>rw [hFd] at o;exact o.elim
 |ex c h1 =>
  rw [hFd] at q o;obtain ⟨g,e,cl⟩:=q;have fin:∀U' H',Gr U H U' H'->HRep K U' H' (h1++g)->X0 c U' H' (h1++g):=λU' H' g1 hr1=>by
   rcases cl with rfl|⟨hn,c2⟩
   .rw [bL] at hr1;exact o U' H' g1 hr1
   .exact o (U'.take h1.length) H' (ap0 g1 (by rw [hr'.len];exact hn)) (hr1.cut c2)
  cases hbd:b (a4b N.length ds) h with
  |ex c' h' =>
   rw [hbd] at e
   injection e with e1 e2
   subst e1 e2;exact fin
  |_=>rw [hbd] at e;cases e
 |ok d h1 =>
  rw [hFd] at q o;obtain ⟨g,e,cl⟩:=q;have fin:∀U' H' v,Gr U H U' H'->Rep K U' H' v d->HRep K U' H' (h1++g)->Q v H':=λU' H' v g1 r1 hr1=>by
   rcases cl with rfl|⟨hn,c1,c2⟩
   .rw [bL] at hr1;exact o U' H' v g1 r1 hr1
   .exact o (U'.take h1.length) H' v (ap0 g1 (by rw [hr'.len];exact hn)) (r1.cut c1) (hr1.cut c2)
  cases hbd:b (a4b N.length ds) h with
  |rt d' h' =>
   rw [hbd] at e
   injection e with e1 e2
   subst e1 e2;exact fin
  |nx τ' h' =>
   rw [hbd] at e
   injection e with e1 e2
   subst e1 e2;exact λU' H' Z' g1 S1 hr1=>fin U' H' .non g1 .non hr1
  |_=>rw [hbd] at e;cases e
end
section
variable{K:PySem.W.Frag}{E:XD}{U:List Addr}{H:Hp}{h:Hd}{Q:VK}
theorem ans(o:out K E (yx K) U H (.ok d h) Q)(r:Rep K U H v d)(hr:HRep K U H h):Q v H:=o U H v (.refl _ _) r hr
theorem HRep.lst(hr:HRep K U H h){i:Nat}{a:Addr}{xs:List D}(e:U[i]? = some a)(hi:h[i]? = some (.lst xs)):∃vs,H a=some (.lst vs)/\Reps K U H vs xs:=hr.obj i a _ e hi
end
def a8h:D->D->Hd->R D
 |.int i,.int j,h=>.ok (.int (i-j)) h
 |_,_,_=>.no
noncomputable def acw:D->D->Hd->R D
 |.int i,.int j,h=>if 0<j then .ok (.int (i%j)) h else .no
 |_,_,_=>.no
noncomputable def aii:D->D->Hd->R D
 |.int i,.int j,h=>if 0<j/\j<1073741824 then .ok (.int (i / j)) h else .no
 |_,_,_=>.no
noncomputable def aij:D->D->Hd->R D
 |.int i,.int j,h=>if 0<=j/\j<=1000000/\i.natAbs<2^64 then .ok (.int (i^j.toNat)) h else .no
 |_,_,_=>.no
section
variable{X:Cx}{K:PySem.W.Frag}
theorem aqy:a4w K a8h (rI0 λi j=>.int (i-j)):=by
 intro E U H h x y dx dy Q rx ry hr o
 cases rx with
 |int i =>
  cases ry with
  |int j=>exact ⟨i,j,rfl,rfl,ans o (.int _) hr⟩
  |_=>exact o.elim
 |_=>exact o.elim
theorem aqz:a4w K acw (rI (λ_ j=>0<j) λi j=>.int (i%j)):=by
 intro E U H h x y dx dy Q rx ry hr o
 cases rx with
 |int i =>
  cases ry with
  |int j =>
   by_cases hc:0<j
   .simp only [acw,aE hc] at o;exact ⟨i,j,rfl,rfl,hc,ans o (.int _) hr⟩
   .simp only [acw,aS hc] at o;exact o.elim
  |_=>exact o.elim
 |_=>exact o.elim
theorem ar0:a4w K aii (rI b00 λi j=>.int (i / j)):=by
 intro E U H h x y dx dy Q rx ry hr o
 cases rx with
 |int i =>
  cases ry with
  |int j =>
   by_cases hc:0<j/\j<1073741824
   .simp only [aii,aE hc] at o;exact ⟨i,j,rfl,rfl,hc,ans o (.int _) hr⟩
   .simp only [aii,aS hc] at o;exact o.elim
  |_=>exact o.elim
 |_=>exact o.elim
theorem ar3:a4w K aij (rI b01 λi j=>.int (i^j.toNat)):=by
 intro E U H h x y dx dy Q rx ry hr o
 cases rx with
 |int i =>
  cases ry with
  |int j =>
   by_cases hc:0<=j/\j<=1000000/\i.natAbs<2^64
   .simp only [aij,aE hc] at o;exact ⟨i,j,rfl,rfl,hc,ans o (.int _) hr⟩
   .simp only [aij,aS hc] at o;exact o.elim
  |_=>exact o.elim
 |_=>exact o.elim
variable{E:XD}{a b e:Expr}{es:List Expr}{fa fb:SE}{ka:SA}{pos:Pos}
theorem a74(ha:ME X E a fa)(hb:ME X E b fb):ME X E (.BinOp a .Sub b pos) (s2 a8h fa fb):=age aud aqy ha hb
theorem a75(ha:ME X E a fa)(hb:ME X E b fb):ME X E (.BinOp a .Mod b pos) (s2 acw fa fb):=age auf aqz ha hb
theorem aik(ha:ME X E a fa)(hb:ME X E b fb):ME X E (.BinOp a .FloorDiv b pos) (s2 aii fa fb):=age aq6 ar0 ha hb
theorem ap1(ha:ME X E a fa)(hb:ME X E b fb):ME X E (.BinOp a .Pow b pos) (s2 aij fa fb):=age auh ar3 ha hb
def a5t:D->Hd->R D
 |.int i,h=>.ok (.int (-i)) h
 |_,_=>.no
theorem a76(ha:ME X E a fa):ME X E (.UnaryOp .USub a pos) (s1 a5t fa):=az0 aui (λE U H h x dx Q rx hr o=>by
 cases rx with
 |int i=>exact ⟨i,rfl,ans o (.int _) hr⟩
 |_=>exact o.elim) ha
noncomputable def gLt:D->D->Hd->R D
 |.int i,.int j,h=>.ok (.bl (decide (i<j))) h
 |.str i,.str j,h=>.ok (.bl (decide (i.cps.toList<j.cps.toList))) h
 |_,_,_=>.no
noncomputable def gLe:D->D->Hd->R D
 |.int i,.int j,h=>.ok (.bl (decide (i<=j))) h
 |.str i,.str j,h=>.ok (.bl (!decide (j.cps.toList<i.cps.toList))) h
 |_,_,_=>.no
def gGt:D->D->Hd->R D
 |.int i,.int j,h=>.ok (.bl (decide (j<i))) h
 |_,_,_=>.no
def gGe:D->D->Hd->R D
 |.int i,.int j,h=>.ok (.bl (decide (j<=i))) h
 |_,_,_=>.no
theorem a3b:a4w K gLt (λx y H Q=>rI0 (λi j=>.bl (decide (i<j))) x y H Q\/∃i j,x=.str i/\y=.str j/\Q (.bl (decide (i.cps.toList<j.cps.toList))) H):=by
 intro E U H h x y dx dy Q rx ry hr o
 cases rx with
 |int i =>
  cases ry with
  |int j=>exact .inl ⟨i,j,rfl,rfl,ans o (.bl _) hr⟩
  |_=>exact o.elim
 |str i =>
  cases ry with
  |str j=>exact .inr ⟨i,j,rfl,rfl,ans o (.bl _) hr⟩
  |_=>exact o.elim
 |_=>exact o.elim
theorem ail:a4w K gLe (λx y H Q=>rI0 (λi j=>.bl (decide (i<=j))) x y H Q\/∃i j,x=.str i/\y=.str j/\Q (.bl (!decide (j.cps.toList<i.cps.toList))) H):=by
 intro E U H h x y dx dy Q rx ry hr o
 cases rx with
 |int i =>
  cases ry with
  |int j=>exact .inl ⟨i,j,rfl,rfl,ans o (.bl _) hr⟩
  |_=>exact o.elim
 |str i =>
  cases ry with
  |str j=>exact .inr ⟨i,j,rfl,rfl,ans o (.bl _) hr⟩
  |_=>exact o.elim
 |_=>exact o.elim
theorem abf:a4w K gGt (rI0 λi j=>.bl (decide (j<i))):=by
 intro E U H h x y dx dy Q rx ry hr o
 cases rx with
 |int i =>
  cases ry with
  |int j=>exact ⟨i,j,rfl,rfl,ans o (.bl _) hr⟩
  |_=>exact o.elim
 |_=>exact o.elim
theorem aim:a4w K gGe (rI0 λi j=>.bl (decide (j<=i))):=by
 intro E U H h x y dx dy Q rx ry hr o
 cases rx with
 |int i =>
  cases ry with
  |int j=>exact ⟨i,j,rfl,rfl,ans o (.bl _) hr⟩
  |_=>exact o.elim
 |_=>exact o.elim
def a8d:D->Bool
 |.non=>true
 |_=>false
theorem ain(r:Rep K U H x .non):x=.non:=by cases r;rfl
theorem aen{b:Bool}(r:Rep K U H x (.bl b)):x=.bl b:=by cases r;rfl
theorem aio{i:Int}(r:Rep K U H x (.int i)):x=.int i:=by cases r;rfl
theorem aeo(r:Rep K U H x d):decide (x=.non)=a8d d:=by cases r<;>simp [a8d]
noncomputable def gIs(x y:D)(h:Hd):R D:=match y with
 |.non=>.ok (.bl (a8d x)) h
 |.bl j=>(match x with|.bl i=>.ok (.bl (i == j)) h|_=>.no)
 |_=>.no
noncomputable def aep(x y:D)(h:Hd):R D:=match y with
 |.non=>.ok (.bl (!a8d x)) h
 |.bl j=>(match x with|.bl i=>.ok (.bl (i != j)) h|_=>.no)
 |_=>.no
theorem aip:a4w K gIs (λx y H Q=>(y=.non/\Q (.bl (decide (x=.non))) H)\/∃i j,x=.bl i/\y=.bl j/\Q (.bl (i == j)) H):=by
 intro E U H h x y dx dy Q rx ry hr o
 cases dy with
 |non=>exact .inl ⟨ain ry,by rw [aeo rx];exact ans o (.bl _) hr⟩
 |bl j =>
  cases dx with
  |bl i=>exact .inr ⟨i,j,aen rx,aen ry,ans o (.bl _) hr⟩
  |_=>exact o.elim
 |_=>exact o.elim
theorem aiq:a4w K aep (λx y H Q=>(y=.non/\Q (.bl (!decide (x=.non))) H)\/∃i j,x=.bl i/\y=.bl j/\Q (.bl (i != j)) H):=by
 intro E U H h x y dx dy Q rx ry hr o
 cases dy with
 |non=>exact .inl ⟨ain ry,by rw [aeo rx];exact ans o (.bl _) hr⟩
 |bl j =>
  cases dx with
  |bl i=>exact .inr ⟨i,j,aen rx,aen ry,ans o (.bl _) hr⟩
  |_=>exact o.elim
 |_=>exact o.elim
def a04:D->Bool
 |.non=>true|.bl _=>true|.int _=>true|.str _=>true
 |_=>false
noncomputable def fvD:D->Option V
 |.non=>some .non|.bl b=>some (.bl b)|.int i=>some (.int i)|.str x=>some (.str x)
 |_=>none
theorem amf{d:D}(r:Rep K U H x d)(f:a04 d=true):fvD d=some x:=by
 cases r<;>first|rfl|(cases f;done)
theorem fvs{d e:D}{P:D->V->D->V->Prop}(h:∀d x e y,fvD d=some x->fvD e=some y->P d x e y)(r:Rep K U H x d)(q:Rep K U H y e)(f:a04 d=true)(g:a04 e=true):P d x e y:=h d x e y (amf r f) (amf q g)
noncomputable def eqF:D->D->Bool
 |.non,.non=>true
 |.bl i,.bl j=>i == j
 |.int i,.int j=>i == j
 |.str i,.str j=>i == j
 |.int i,.bl j=>i == (if j then 1 else 0)
 |.bl i,.int j=>(if i then 1 else 0) == j
 |_,_=>false
end
section
variable{X:Cx}{K:PySem.W.Frag}{E:XD}{a b e o:Expr}{es:List Expr}{fa fb:SE}{ka:SA}{pos:Pos}
noncomputable def a2n(d:D)(h:Hd):Option (List D):=match d with
 |.tup xs=>some xs
 |.rol xs=>some xs
 |.ref i=>match h[i]? with|some (.lst xs)=>some xs|_=>none
 |_=>none
noncomputable def gIx(x y:D)(h:Hd):R D:=match y with
 |.int i=>(match x with
  |.str z=>if z.length<=LINE then (match atI z.cps.toList i with|some c=>.ok (.str ⟨#[c]⟩) h|none=>.no) else .no
  |x=>match a2n x h with
   |some xs=>(match atI xs i with|some d=>.ok d h|none=>.no)
   |none=>.no)
 |_=>.no
theorem amg(r:Reps K U H vs xs)(e:atI xs i=some d):∃v,atI vs i=some v/\Rep K U H v d:=by
 unfold atI at e ⊢;rw [r.len]
 cases hx:ixN xs.length i with
 |none=>rw [hx] at e;cases e
 |some j=>rw [hx] at e;exact r.get e
theorem av8:a4w K gIx (rIx K):=by
 intro E U H h x y dx dy Q rx ry hr o
 cases ry with
 |int i =>
  have go:∀{p:Addr} {vs:List V} {xs:List D},Reps K U H vs xs->out K E (yx K) U H (match atI xs i with|some d=>.ok d h|none=>.no) Q->∃v,atI vs i=some v/\Q v H:=λ{p vs xs} r o=>by
   cases he:atI xs i with
   |none=>rw [he] at o;exact o.elim
   |some d =>
    rw [he] at o;obtain ⟨v,h1,h2⟩:=amg r he;exact ⟨v,h1,ans o h2 hr⟩
  cases rx with
  |str z =>
   by_cases hc:z.length<=LINE
   .simp only [gIx,aE hc] at o
    cases he:atI z.cps.toList i with
    |none=>rw [he] at o;exact o.elim
    |some c=>rw [he] at o;exact .inr (.inr ⟨z,i,c,rfl,rfl,ll hc,he,ans o (.str _) hr⟩)
   .simp only [gIx,aS hc] at o;exact o.elim
  |@tup p vs xs hp r =>
   simp only [gIx,a2n] at o;obtain ⟨v,h1,h2⟩:=go (p:=p) r o;exact .inr (.inl ⟨p,vs,i,v,rfl,rfl,SqT.of hp,h1,h2⟩)
  |@rol p vs xs hp r =>
   simp only [gIx,a2n] at o;obtain ⟨v,h1,h2⟩:=go (p:=p) r o;exact .inl ⟨p,vs,i,v,rfl,rfl,hp.l,h1,h2⟩
  |@ref p j hp =>
   obtain ⟨ob,e1,e2⟩:=hr.at hp
   cases ob with
   |lst xs =>
    simp only [gIx,a2n,e1] at o;obtain ⟨vs,h3,h4⟩:=e2;obtain ⟨v,h1,h2⟩:=go (p:=p) h4 o;exact .inl ⟨p,vs,i,v,rfl,rfl,SqL.of h3,h1,h2⟩
   |dK _=>simp only [gIx,a2n,e1] at o;exact o.elim
   |dT _=>simp only [gIx,a2n,e1] at o;exact o.elim
  |_=>exact o.elim
 |_=>exact o.elim
theorem ar4(ha:ME X E a fa)(hb:ME X E b fb)(hp:a95 b):ME X E (.Subscript a b pos) (s2 gIx fa fb):=az1 auq av8 ha hb hp
abbrev SO:=Sd->Hd->R (Option Int)
abbrev MO(X:Cx)(E:XD)(e:Option Expr)(f:SO):Prop:=PO X e (lift X.K E b1j f)
def oN:SO:=λ_ h=>.ok none h
def oS(f:SE):SO:=λτ h=>(f τ h).bind λd h1=>match d with|.int i=>.ok (some i) h1|_=>.no
theorem PO.weak{e:Option Expr}{t t':St->Hp->(Option Int->Hp->Prop)->Prop}(h:PO X e t)(i:∀Z H Q,t' Z H Q->t Z H Q):PO X e t':=λpins s Z H Q I q=>h pins s Z H Q I (i _ _ _ q)
theorem yz:MO X E none oN:=PO.weak aqh λZ H Q ⟨U,τ,h,S,Rh,o⟩=>o U H none (.refl _ _) rfl Rh
theorem wj(he:ME X E e fa):MO X E (some e) (oS fa):=by
 refine PO.weak (aqi he) ?_
 rintro Z H Q ⟨U,τ,h,S,Rh,o⟩
 refine ⟨U,τ,h,S,Rh,dh o λd h1 U1 H1 v g1 r1 hr1 o1=>?_⟩
 cases r1 with
 |int i=>exact ⟨i,rfl,o1 U1 H1 _ (.refl _ _) rfl hr1⟩
 |_=>exact o1.elim
def whole(n:Nat)(lo hi:Option Int):Prop:=HT.sIx n 0 lo=0/\HT.sIx n n hi=n
instance (n:Nat) (lo hi:Option Int):Decidable (whole n lo hi):=by unfold whole;exact inferInstance
noncomputable def gSl(d:D)(lo hi:Option Int)(h:Hd):R D:=match d with
 |.str z=>if z.length<=LINE then .ok (.str ⟨(a4v z.cps.toList lo hi).toArray⟩) h else .no
 |.tup xs=>if ¬ whole xs.length lo hi then .ok (.tup (a4v xs lo hi)) h else .no
 |.rol xs=>.ok (.ref h.length) (h++[.lst (a4v xs lo hi)])
 |.scr xs=>.ok (.ref h.length) (h++[.lst (a4v xs lo hi)])
 |.ref i=>match h[i]? with|some (.lst xs)=>.ok (.ref h.length) (h++[.lst (a4v xs lo hi)])|_=>.no
 |_=>.no
theorem a4c(r:Reps K U H vs xs)(lo hi:Option Int):Reps K U H (aos vs lo hi) (a4v xs lo hi):=by
 unfold aos a4v;rw [r.len];exact (r.drop _).take _
theorem aeq(rx:Rep K U H x d)(hr:HRep K U H h)(o:out K E (yx K) U H (gSl d lo hi h) Q):ayv x lo hi H Q\/ayr K x lo hi H Q\/ayt K x lo hi H Q:=by
 cases rx with
 |str z =>
  by_cases hc:z.length<=LINE
  .simp only [gSl,aE hc] at o;exact .inl ⟨z,rfl,ll hc,ans o (.str _) hr⟩
  .simp only [gSl,aS hc] at o;exact o.elim
 |@tup p vs xs hp r =>
  by_cases hc:¬ whole xs.length lo hi
  .simp only [gSl,aE hc] at o;exact .inr (.inl ⟨p,vs,rfl,SqT.of hp,by rw [r.len];exact hc,a3p (a4c r lo hi) hr o⟩)
  .simp only [gSl,aS hc] at o;exact o.elim
 |@rol p vs xs hp r=>exact .inr (.inr ⟨p,vs,rfl,hp.l,yf (a4c r lo hi) hr o⟩)
 |@scr p vs xs hp r=>exact .inr (.inr ⟨p,vs,rfl,hp.l,yf (a4c r lo hi) hr o⟩)
 |@ref p j hp =>
  obtain ⟨ob,e1,e2⟩:=hr.at hp
  cases ob with
  |lst xs =>
   simp only [gSl,e1] at o;obtain ⟨vs,h3,h4⟩:=e2;exact .inr (.inr ⟨p,vs,rfl,SqL.of h3,yf (a4c h4 lo hi) hr o⟩)
  |dK _=>simp only [gSl,e1] at o;exact o.elim
  |dT _=>simp only [gSl,e1] at o;exact o.elim
 |_=>exact o.elim
theorem air(r:Rep K U H x d)(f:a04 d=true):a3i x=true:=by cases r<;>first|rfl|cases f
theorem av9(r:Rep K U H x d)(q:Rep K U H y c):a04 d=true->a04 c=true->eqV x y=eqF d c:=λf g=>by
 refine fvs (P:=λd x c y=>eqV x y=eqF d c) (λd x e y h h'=>?_) r q f g
 cases d<;>first|(cases h;done)|(cases h;cases e<;>first|(cases h';done)|(cases h';rfl))
def inD(x:D)(xs:List D):Bool:=xs.any λy=>eqF y x
theorem amh(r:Reps K U H vs xs)(f:xs.all a04=true):vs.all a3i=true:=by
 induction r using Reps.rec (motive_1:=λ_ _ _=>True) with
 |nil=>rfl
 |cons r rs _ ih =>
  rw [gJ,cf] at f ⊢;exact ⟨air r f.1,ih f.2⟩
 |_=>trivial
theorem ava(rx:Rep K U H x d)(fx:a04 d=true)(r:Reps K U H vs xs)(f:xs.all a04=true):inV x vs=inD d xs:=by
 unfold inV inD
 induction r using Reps.rec (motive_1:=λ_ _ _=>True) with
 |nil=>rfl
 |cons r rs _ ih =>
  rw [gJ,cf] at f;rw [gK,gK,ih f.2,av9 r rx f.1 fx]
 |_=>trivial
noncomputable def gIn(neg:Bool)(x y:D)(h:Hd):R D:=match y with
 |.str T=>(match x with
  |.str z=>(match z.cps.toList with|[c]=>.ok (.bl (if neg then !decide (c∈T.cps.toList) else decide (c∈T.cps.toList))) h|_=>.no)
  |_=>.no)
 |y=>match a2n y h with
  |some xs=>if a04 x=true/\xs.all a04=true then .ok (.bl (if neg then !inD x xs else inD x xs)) h else .no
  |none=>.no
theorem one_sign{z:Str}(h:z.cps.toList=[c]):z=⟨#[c]⟩:=by
 obtain ⟨cps⟩:=z
 congr
 exact Array.ext' (by simpa using h)
theorem ap2(neg:Bool){r1:R2}(h1:∀c T H (Q:VK),Q (.bl (if neg then !decide (c∈T.cps.toList) else decide (c∈T.cps.toList))) H->r1 (.str ⟨#[c]⟩) (.str T) H Q):a4w K (gIn neg) (λx y H Q=>r1 x y H Q\/rIn K neg x y H Q):=by
 intro E U H h x y dx dy Q rx ry hr o
 have go:∀{p:Addr} {vs:List V} {xs:List D},(SqL K H p vs\/SqT K H p vs)->Reps K U H vs xs->out K E (yx K) U H (if a04 dx=true/\xs.all a04=true then .ok (.bl (if neg then !inD dx xs else inD dx xs)) h else .no) Q->rIn K neg x (.ref p) H Q:=λ{p vs xs} sq r o=>by
  split at o
  .rename_i hc;exact ⟨p,vs,rfl,sq,air rx hc.1,amh r hc.2,by rw [ava rx hc.1 r hc.2];exact ans o (.bl _) hr⟩
  .exact o.elim
 cases ry with
 |str T =>
  cases rx with
  |str z =>
   simp only [gIn] at o
   split at o
   .rename_i c hz;rw [one_sign hz];exact .inl (h1 c T H Q (ans o (.bl _) hr))
   .exact o.elim
  |_=>exact o.elim
 |@tup p vs xs hp r=>simp only [gIn,a2n] at o;exact .inr (go (.inr (SqT.of hp)) r o)
 |@rol p vs xs hp r=>simp only [gIn,a2n] at o;exact .inr (go (.inl hp.l) r o)
 |@ref p j hp =>
  obtain ⟨ob,e1,e2⟩:=hr.at hp
  cases ob with
  |lst xs =>
   simp only [gIn,a2n,e1] at o;obtain ⟨vs,h3,h4⟩:=e2;exact .inr (go (.inl (SqL.of h3)) h4 o)
  |dK _=>simp only [gIn,a2n,e1] at o;exact o.elim
  |dT _=>simp only [gIn,a2n,e1] at o;exact o.elim
 |_=>exact o.elim
theorem a5a:a4w K (gIn false) (λx y H Q=>(∃c T,x=.str ⟨#[c]⟩/\y=.str T/\Q (.bl (decide (c∈T.cps.toList))) H)\/rIn K false x y H Q):=ap2 false λc T H Q q=>⟨c,T,rfl,rfl,q⟩
theorem acx:a4w K (gIn true) (λx y H Q=>(∃c T,x=.str ⟨#[c]⟩/\y=.str T/\Q (.bl (!decide (c∈T.cps.toList))) H)\/rIn K true x y H Q):=ap2 true λc T H Q q=>⟨c,T,rfl,rfl,q⟩
noncomputable def qu:List D->Hd->R D
 |[.str z],h=>if z.length<=LINE then .ok (.int z.length) h else .no
 |[x],h=>(match a2n x h with|some xs=>.ok (.int xs.length) h|none=>.no)
 |_,_=>.no
theorem ar5:alq K qu (λxs H Q=>(∃p ys,xs=[.ref p]/\(SqL K H p ys\/SqT K H p ys)/\Q (.int ys.length) H)\/∃z,xs=[.str z]/\z.length<=sizeLine/\Q (.int z.length) H):=by
 intro E U H h xs ds Q r hr o
 cases r with
 |nil=>exact o.elim
 |cons r rs =>
  cases rs with
  |cons _ _=>exact (show False by cases r<;>exact o).elim
  |nil =>
   cases r with
   |str z =>
    by_cases hc:z.length<=LINE
    .simp only [qu,aE hc] at o;exact .inr ⟨z,rfl,ll hc,ans o (.int _) hr⟩
    .simp only [qu,aS hc] at o;exact o.elim
   |@tup p vs xs hp r=>simp only [qu,a2n] at o;exact .inl ⟨p,vs,rfl,.inr (SqT.of hp),by rw [r.len];exact ans o (.int _) hr⟩
   |@rol p vs xs hp r=>simp only [qu,a2n] at o;exact .inl ⟨p,vs,rfl,.inl hp.l,by rw [r.len];exact ans o (.int _) hr⟩
   |@ref p j hp =>
    obtain ⟨ob,e1,e2⟩:=hr.at hp
    cases ob with
    |lst xs =>
     simp only [qu,a2n,e1] at o;obtain ⟨vs,h3,h4⟩:=e2;exact .inl ⟨p,vs,rfl,.inl (SqL.of h3),by rw [h4.len];exact ans o (.int _) hr⟩
    |dK _=>simp only [qu,a2n,e1] at o;exact o.elim
    |dT _=>simp only [qu,a2n,e1] at o;exact o.elim
   |_=>exact o.elim
def avb:List D->Hd->R D
 |[.int i],h=>.ok (.int (if i<0 then -i else i)) h
 |_,_=>.no
theorem ais:alq K avb (λxs H Q=>∃i,xs=[.int i]/\Q (.int (if i<0 then -i else i)) H):=by
 intro E U H h xs ds Q r hr o
 unfold avb at o
 split at o
 .cases r with|cons r rs=>cases r;cases rs;exact ⟨_,rfl,ans o (.int _) hr⟩
 .exact o.elim
noncomputable def ami:List D->Hd->R D
 |[.int i,.int j],h=>.ok (.int (if j > i then j else i)) h
 |_,_=>.no
noncomputable def abg:List D->Hd->R D
 |[.int i,.int j],h=>.ok (.int (if j<i then j else i)) h
 |_,_=>.no
theorem amj:alq K abg (λxs H Q=>∃i j,xs=[.int i,.int j]/\Q (.int (if j<i then j else i)) H):=by
 intro E U H h xs ds Q r hr o
 unfold abg at o
 split at o
 .cases r with|cons r rs=>cases rs with|cons q rs=>cases r;cases q;cases rs;exact ⟨_,_,rfl,ans o (.int _) hr⟩
 .exact o.elim
noncomputable def agg:List D->Hd->R D
 |[.int i],h=>.ok (.int i) h
 |[.bl k],h=>.ok (.int (if k then 1 else 0)) h
 |_,_=>.no
theorem acy:alq K agg (λxs H Q=>(∃i,xs=[.int i]/\Q (.int i) H)\/∃k,xs=[.bl k]/\Q (.int (if k then 1 else 0)) H):=by
 intro E U H h xs ds Q r hr o
 unfold agg at o
 split at o
 .cases r with|cons r rs=>cases r;cases rs;exact .inl ⟨_,rfl,ans o (.int _) hr⟩
 .cases r with|cons r rs=>cases r;cases rs;exact .inr ⟨_,rfl,ans o (.int _) hr⟩
 .exact o.elim
noncomputable def tyD(d:D)(h:Hd):Option String:=match d with
 |.non=>some "NoneType" |.bl _=>some "bool" |.int _=>some "int" |.str _=>some "str" |.tup _=>some "tuple" |.rol _=>some "list"
 |.ref i=>(match h[i]? with|some (.lst _)=>some "list" |some (.dK _)=>some "dict" |_=>none)
 |_=>none
noncomputable def ahk(t T:String):Option Bool :=
 if t∈["NoneType","bool","int","str","tuple","list","dict"]/\T∈["bool","int","str","tuple","list","dict"] then some (t == T || (t == "bool" && T == "int")) else none
theorem ait{t T:String}{b:Bool}(e:ahk t T=some b):PySem.W.kitOne K (.type t) (.type T)=some b:=by
 unfold ahk at e
 split at e
 .rename_i h;obtain ⟨h1,h2⟩:=h;simp only [aC,bA,e9] at h1 h2
  rcases h1 with rfl|rfl|rfl|rfl|rfl|rfl|rfl<;>rcases h2 with rfl|rfl|rfl|rfl|rfl|rfl<;>(cases e;rfl)
 .cases e
noncomputable def alu:List D->Hd->R D
 |[x,.ty T],h=>(match tyD x h with|some t=>(match ahk t T with|some b=>.ok (.bl b) h|none=>.no)|none=>.no)
 |_,_=>.no
theorem avc(r:Rep K U H x d)(hr:HRep K U H h)(e:tyD d h=some t):TyOf K H x (.type t):=by
 cases r with
 |non=>cases e;exact .non
 |bl b=>cases e;exact .bl b
 |int b=>cases e;exact .int b
 |str b=>cases e;exact .str b
 |ty _=>cases e
 |tup hp r=>cases e;exact .tup hp
 |rol hp r=>cases e;obtain ⟨o,hp⟩:=hp;exact .frz hp
 |scr _ _=>cases e
 |rod _ _ _=>cases e
 |rdT _ _ _=>cases e
 |exc _ _ _=>cases e
 |ref hp =>
  obtain ⟨ob,e1,e2⟩:=hr.at hp
  cases ob with
  |lst xs=>simp only [tyD,e1] at e;cases e;obtain ⟨vs,h3,h4⟩:=e2;exact .lst h3
  |dK _=>simp only [tyD,e1] at e;cases e;obtain ⟨vs,h3,h4⟩:=e2;exact .dK h3
  |dT _=>simp only [tyD,e1] at e;cases e
theorem ar6:alq K alu (λxs H Q=>∃x T t b,xs=[x,.ty T]/\TyOf K H x t/\PySem.W.kitOne K t (.type T)=some b/\Q (.bl b) H):=by
 intro E U H h xs ds Q r hr o
 unfold alu at o
 split at o
 .rename_i d T
  cases r with
  |cons r rs =>
   cases rs with
   |cons q rs =>
    cases q;cases rs
    cases ht:tyD d h with
    |none=>rw [ht] at o;exact o.elim
    |some t =>
     rw [ht] at o
     cases hb:ahk t T with
     |none=>simp only [hb] at o;exact o.elim
     |some b =>
      simp only [hb] at o;exact ⟨_,T,.type t,b,rfl,avc r hr ht,ait hb,ans o (.bl _) hr⟩
 .exact o.elim
end
section
variable{X:Cx}{K:PySem.W.Frag}{E:XD}{a b e o:Expr}{es:List Expr}{fa fb fo:SE}{ka:SA}{pos apos cpos:Pos}{name:Str}{idn:String}
def atg(K:PySem.W.Frag)(g:D->List D->Hd->R D)(r:V->List V->Hp->VK->Prop):Prop:=∀(E:XD) U H h x dx xs ds Q,Rep K U H x dx->Reps K U H xs ds->HRep K U H h->out K E (yx K) U H (g dx ds h) Q->r x xs H Q
noncomputable def isL(d:D)(h:Hd):Bool:=match d with|.ref i=>(match h[i]? with|some (.lst _)=>true|_=>false)|.rol _=>true|_=>false
noncomputable def sML(g:D->List D->Hd->R D)(f:SE)(k:SA):SE:=λτ h=>(f τ h).bind λd h1=>if isL d h1=true then (k τ h1).bind λds h2=>g d ds h2 else .no
theorem avd(r:Rep K U H x d)(hr:HRep K U H h)(e:isL d h=true):tyV K "list" x H:=by
 cases r with
 |rol hp _=>exact .inl ⟨rfl,_,hp.l⟩
 |ref hp =>
  obtain ⟨ob,e1,e2⟩:=hr.at hp
  cases ob with
  |lst xs=>obtain ⟨vs,h3,_⟩:=e2;exact .inl ⟨rfl,_,SqL.of h3⟩
  |dK _=>simp [isL,e1] at e
  |dT _=>simp [isL,e1] at e
 |_=>cases e
theorem amk(slot:Slot "list" name idn)(hty:typeOf (.builtin idn)=pure (.type "method_descriptor"))(hm:MtR X idn r)(hs:atg X.K g r)(ho:ME X E o fo)(ha:MA X E (e::es) ka)
  (hbase:attributeBase o name X.env (eval o X.env)=eval o X.env:=by rfl)
  (hfew:((backTo cpos (starEach (e::es) X.env)).all (λx => !x.1) && (backToKw cpos (keywordEach [] X.env)).all (λx=>x.1.isSome)
   && decide ((e::es).length+([]:List Keyword).length+(if ([]:List Keyword).isEmpty then 0 else 1)<30))=true:=by rfl)
  (hline:(apos.endLine == cpos.line)=true:=by rfl) (hst:starEach (e::es) X.env=(false,eval e X.env)::starEach es X.env:=by rfl) (hplain:(backTo cpos (starEach es X.env)).any (·.1)=false:=by rfl) :
  ME X E (.Call (.Attribute o name apos) (e::es) [] cpos) (sML g fo ka):=by
 refine PE.weak (ayu PySem.F.plainAttrs_list slot hty hm ho ha hbase hfew hline hst hplain) ?_
 rintro Z H Q ⟨U,τ,h,S,Rh,o⟩
 refine ⟨U,τ,h,S,Rh,dh o λd h1 U1 H1 v g1 r1 hr1 o1=>?_⟩
 by_cases hc:isL d h1=true
 .rw [aE hc] at o1;refine ⟨avd r1 hr1 hc,U1,τ,h1,S.mono g1,hr1,dh o1 λds h2 U2 H2 vs g2 r2 hr2 o2=>?_⟩;exact hs E U2 H2 h2 v d vs ds Q (r1.mono g2) r2 hr2 o2
 .rw [aS hc] at o1;exact o1.elim
noncomputable def alv:D->List D->Hd->R D
 |.ref i,[y],h=>(match h[i]? with|some (.lst xs)=>if xs.length<LINE then .ok .non (h.set i (.lst (xs++[y]))) else .no|_=>.no)
 |_,_,_=>.no
theorem aiu:atg K alv ai7:=by
 intro E U H h x dx xs ds Q rx r hr o
 unfold alv at o
 split at o
 .rename_i i y
  cases rx with
  |@ref p _ hp =>
   cases r with
   |cons r1 rs =>
    cases rs
    split at o
    .rename_i xs hx;obtain ⟨vs,h3,h4⟩:=hr.lst hp hx
     split at o
     .rename_i hc;exact ⟨p,vs,_,rfl,rfl,h3,by rw [h4.len,ayw];exact hc,acs (h4.snoc r1) hr hp .non o⟩
     .exact o.elim
    .exact o.elim
 .exact o.elim
noncomputable def sMS(g:D->List D->Hd->R D)(f:SE)(k:SA):SE:=λτ h=>(f τ h).bind λd h1=>match d with|.str z=>(k τ h1).bind λds h2=>g (.str z) ds h2|_=>.no
theorem aiv(slot:Slot "str" name idn)(hty:typeOf (.builtin idn)=pure (.type "method_descriptor"))(hm:MtR X idn r)(hs:atg X.K g r)(ho:ME X E o fo)(ha:MA X E (e::es) ka)
  (hbase:attributeBase o name X.env (eval o X.env)=eval o X.env:=by rfl)
  (hfew:((backTo cpos (starEach (e::es) X.env)).all (λx => !x.1) && (backToKw cpos (keywordEach [] X.env)).all (λx=>x.1.isSome)
   && decide ((e::es).length+([]:List Keyword).length+(if ([]:List Keyword).isEmpty then 0 else 1)<30))=true:=by rfl)
  (hline:(apos.endLine == cpos.line)=true:=by rfl) (hst:starEach (e::es) X.env=(false,eval e X.env)::starEach es X.env:=by rfl) (hplain:(backTo cpos (starEach es X.env)).any (·.1)=false:=by rfl) :
  ME X E (.Call (.Attribute o name apos) (e::es) [] cpos) (sMS g fo ka):=by
 refine PE.weak (ayy slot hty hm ho ha hbase hfew hline hst hplain) ?_
 rintro Z H Q ⟨U,τ,h,S,Rh,o⟩
 refine ⟨U,τ,h,S,Rh,dh o λd h1 U1 H1 v g1 r1 hr1 o1=>?_⟩
 cases r1 with
 |str z=>exact ⟨⟨z,rfl⟩,U1,τ,h1,S.mono g1,hr1,dh o1 λds h2 U2 H2 vs g2 r2 hr2 o2=>hs E U2 H2 h2 _ _ vs ds Q (.str z) r2 hr2 o2⟩
 |_=>exact o1.elim
noncomputable def acz:List D->Option (List Str)
 |[]=>some []
 |.str z::r=>(acz r).map (z::·)
 |_::_=>none
theorem a9d:∀{vs:List V} {xs:List D} {zs:List Str},Reps K U H vs xs->acz xs=some zs->vs=zs.map V.str
 |_,_,_,.nil,e=>by cases e;rfl
 |_,_,zs,.cons (d:=d) r rs,e=>by
  cases r with
  |str z =>
   simp only [acz,aQ] at e;obtain ⟨ws,h1,rfl⟩:=e;rw [a9d rs h1];rfl
  |_=>cases e
noncomputable def a8e:D->List D->Hd->R D
 |.str sep,[.ref i],h=>(match h[i]? with|some (.lst xs)=>(match acz xs with|some zs=>if (zs.map (·.length)).sum+zs.length*sep.length<=16777216 then .ok (.str (Txt.join sep zs)) h else .no|none=>.no)|_=>.no)
 |.str sep,[.rol xs],h=>(match acz xs with|some zs=>if (zs.map (·.length)).sum+zs.length*sep.length<=16777216 then .ok (.str (Txt.join sep zs)) h else .no|none=>.no)
 |_,_,_=>.no
theorem a4d:atg K a8e (λx xs H Q=>∃sep p zs,x=.str sep/\xs=[.ref p]/\SqL K H p (zs.map V.str)/\(zs.map (·.length)).sum+zs.length*sep.length<=16777216/\Q (.str (Txt.join sep zs)) H):=by
 intro E U H h x dx xs ds Q rx r hr o
 unfold a8e at o
 split at o
 .rename_i sep i;cases rx
  cases r with
  |cons r1 rs =>
   cases rs
   cases r1 with
   |@ref p _ hp =>
    split at o
    .rename_i xs hx;obtain ⟨vs,h3,h4⟩:=hr.lst hp hx
     split at o
     .rename_i zs hz
      split at o
      .rename_i hc;exact ⟨sep,p,zs,rfl,rfl,SqL.of (by rw [h3,a9d h4 hz]),hc,ans o (.str _) hr⟩
      .exact o.elim
     .exact o.elim
    .exact o.elim
 .rename_i sep xs;cases rx
  cases r with
  |cons r1 rs =>
   cases rs
   cases r1 with
   |@rol p vs xs hp r =>
    split at o
    .rename_i zs hz
     split at o
     .rename_i hc;exact ⟨sep,p,zs,rfl,rfl,by rw [<-a9d r hz];exact hp.l,hc,ans o (.str _) hr⟩
     .exact o.elim
    .exact o.elim
 .exact o.elim
noncomputable def ave:List D->Hd->R D
 |[.str z],h=>if z.length<=LINE then .ok (.ref h.length) (h++[.lst (a1z z)]) else .no
 |[x],h=>(match a2n x h with|some xs=>.ok (.ref h.length) (h++[.lst xs])|none=>.no)
 |_,_=>.no
theorem a8q(z:Str):Reps K U H (a1r z) (a1z z):=by
 unfold a1r a1z
 induction z.cps.toList with
 |nil=>exact .nil
 |cons c cs ih=>exact .cons (.str _) ih
noncomputable def zj:List D->Hd->R D
 |[.str z],h=>if z.length<=LINE then .ok (.tup (a1z z)) h else .no
 |[x],h=>(match a2n x h with|some xs=>.ok (.tup xs) h|none=>.no)
 |_,_=>.no
theorem a0o:alq K zj (λxs H Q=>(∃p ys,xs=[.ref p]/\((SqL K H p ys/\∀l,H l=none->Q (.ref l) (upd H l (.tup ys)))\/(SqT K H p ys/\Q (.ref p) H)))\/∃z,xs=[.str z]/\z.length<=sizeLine/\∀l,H l=none->Q (.ref l) (upd H l (.tup (a1r z)))):=by
 intro E U H h xs ds Q r hr o
 cases r with
 |nil=>exact o.elim
 |cons r rs =>
  cases rs with
  |cons _ _=>exact (show False by cases r<;>exact o).elim
  |nil =>
   cases r with
   |str z =>
    by_cases hc:z.length<=LINE
    .simp only [zj,aE hc] at o;exact .inr ⟨z,rfl,ll hc,a3p (a8q z) hr o⟩
    .simp only [zj,aS hc] at o;exact o.elim
   |@tup p vs xs hp r=>simp only [zj,a2n] at o;exact .inl ⟨p,vs,rfl,.inr ⟨SqT.of hp,ans o (.tup hp r) hr⟩⟩
   |@rol p vs xs hp r=>simp only [zj,a2n] at o;exact .inl ⟨p,vs,rfl,.inl ⟨hp.l,a3p r hr o⟩⟩
   |@ref p j hp =>
    obtain ⟨ob,e1,e2⟩:=hr.at hp
    cases ob with
    |lst xs =>
     simp only [zj,a2n,e1] at o;obtain ⟨vs,h3,h4⟩:=e2;exact .inl ⟨p,vs,rfl,.inl ⟨SqL.of h3,a3p h4 hr o⟩⟩
    |dK _=>simp only [zj,a2n,e1] at o;exact o.elim
    |dT _=>simp only [zj,a2n,e1] at o;exact o.elim
   |_=>exact o.elim
noncomputable def a9e:List D->Option (List Int)
 |[]=>some []
 |.int z::r=>(a9e r).map (z::·)
 |_::_=>none
theorem a6c:∀{vs:List V} {xs:List D} {zs:List Int},Reps K U H vs xs->a9e xs=some zs->vs=zs.map V.int
 |_,_,_,.nil,e=>by cases e;rfl
 |_,_,zs,.cons (d:=d) r rs,e=>by
  cases r with
  |int z =>
   simp only [a9e,aQ] at e;obtain ⟨ws,h1,rfl⟩:=e;rw [a6c rs h1];rfl
  |_=>cases e
end
end MI
theorem L2.Room.u(r:L2.Room k A):A.units+64<PySem.cLine:=r.units
namespace MI
open L2
mutual
def eqD:D->D->Bool
 |.non,.non=>true
 |.bl a,.bl b=>a == b
 |.bl a,.int b=>(if a then 1 else 0) == b
 |.int a,.bl b=>a == (if b then 1 else 0)
 |.int a,.int b=>a == b
 |.str a,.str b=>a == b
 |.tup xs,.tup ys=>ap3 xs ys
 |_,_=>false
def ap3:List D->List D->Bool
 |[],[]=>true
 |x::xs,y::ys=>eqD x y && ap3 xs ys
 |_,_=>false
end
noncomputable def pur:Nat->D->Bool
 |_,.non=>true
 |_,.bl _=>true
 |_,.int _=>true
 |_,.str _=>true
 |n+1,.tup xs=>xs.all (pur n)
 |_,_=>false
noncomputable def pairE(xs ys:List D)(j:Nat):Bool:=match xs[j]?,ys[j]? with|some x,some y=>eqD x y|_,_=>false
theorem a9f:∀xs ys:List D,((List.range (min xs.length ys.length)).all (pairE xs ys) && xs.length == ys.length)=ap3 xs ys
 |[],[]=>by simp [ap3]
 |[],_::_=>by simp [ap3]
 |_::_,[]=>by simp [ap3]
 |x::xs,y::ys=>by
  have ih:=a9f xs ys;rw [show min (x::xs).length (y::ys).length=min xs.length ys.length+1 by simp only [aH];omega,fV]
  rw [gJ,List.all_map];have e:(pairE (x::xs) (y::ys) ∘ Nat.succ)=pairE xs ys:=by funext j;simp [pairE]
  rw [e];simp only [ap3];rw [<-ih];have e2:((x::xs).length == (y::ys).length)=(xs.length == ys.length):=by simp
  rw [e2,Bool.and_assoc];rfl
section
variable{K:PySem.W.Frag}{U:List Addr}{H:Hp}
theorem a9g{xs:List D}(r:Rep K U H v (.tup xs)):∃a vs,v=.ref a/\H a=some (.tup vs)/\Reps K U H vs xs:=by cases r with|@tup a vs _ h rs=>exact ⟨a,vs,rfl,h,rs⟩
theorem ap4(r:Rep K U H v d)(q:Rep K U H v e)(f:a04 d=true)(g:a04 e=true):eqD d e=true:=by
 have h:=amf r f;have h':=amf q g
 cases d<;>first|(cases h;done)|(cases h;cases e<;>first|(cases h';done)|(cases h';simp [eqD]))
theorem a0p(r:Rep K U H v d)(p:pur n d=true):(∃xs,d=.tup xs)\/(a3i v=true/\a04 d=true):=by
 cases r<;>first|exact .inr ⟨rfl,rfl⟩|exact .inl ⟨_,rfl⟩|(cases n<;>cases p)
theorem a9h(r:Rep K U H x d)(q:Rep K U H y e)(f:a04 d=true)(g:a04 e=true):eqV x y=eqD d e:=by
 refine fvs (P:=λd x c y=>eqV x y=eqD d c) (λd x e y h h'=>?_) r q f g
 cases d<;>first|(cases h;done)|(cases h;cases e<;>first|(cases h';done)|(cases h';first|rfl|(simp [eqV,eqD];done)))
theorem aml:∀(n:Nat) {v:V} {d e:D},Rep K U H v d->Rep K U H v e->pur n d=true->pur n e=true->eqD d e=true:=by
 intro n
 induction n with
 |zero =>
  intro v d e r q p1 p2
  rcases a0p r p1 with ⟨xs,rfl⟩|⟨f1,g1⟩
  .cases p1
  rcases a0p q p2 with ⟨xs,rfl⟩|⟨f2,g2⟩
  .cases p2
  exact ap4 r q g1 g2
 |succ n ih =>
  intro v d e r q p1 p2
  rcases a0p r p1 with ⟨xs,rfl⟩|⟨f1,g1⟩
  .rcases a0p q p2 with ⟨ys,rfl⟩|⟨f2,g2⟩
   .obtain ⟨a,vs,rfl,h,rs⟩:=a9g r;obtain ⟨b,us,z,h',qs⟩:=a9g q;cases z
    rw [h] at h';cases h'
    simp only [eqD];simp only [pur,bY] at p1 p2
    clear h r q
    induction rs using Reps.rec (motive_1:=λ_ _ _=>True) generalizing ys with
    |nil=>cases qs;rfl
    |cons r rs _ ih2 =>
     cases qs with
     |cons q qs =>
      simp only [ap3,cf];exact ⟨ih r q (p1 _ (aI ..)) (p2 _ (aI ..)),ih2 _ qs (λx hx=>p1 x (ay _ hx)) (λx hx=>p2 x (ay _ hx))⟩
    |_=>trivial
   .obtain ⟨a,vs,rfl,h,rs⟩:=a9g r;cases f2
  .rcases a0p q p2 with ⟨ys,rfl⟩|⟨f2,g2⟩
   .obtain ⟨a,vs,rfl,h,rs⟩:=a9g q;cases f1
   .exact ap4 r q g1 g2
open SeqAt in
theorem avf{s:Shared}(hok:HOk P w H s.heap):∀(n:Nat) (A:Around) {x y:V} {u v:Value} {d e:D},Rep K U H x d->Rep K U H y e->RelV x u->RelV y v->pur n d=true->pur n e=true->A.units+n<cLine->EqAt A s u v (eqD d e):=by
 intro n
 induction n with
 |zero =>
  intro A x y u v d e r q rx ry p1 p2 hu
  rcases a0p r p1 with ⟨xs,rfl⟩|⟨f1,f2⟩
  .cases p1
  .rcases a0p q p2 with ⟨xs,rfl⟩|⟨g1,g2⟩
   .cases p2
   .rw [<-a9h r q f2 g2];exact ai6 rx ry f1 g1
 |succ n ih =>
  intro A x y u v d e r q rx ry p1 p2 hu
  rcases a0p r p1 with ⟨xs,rfl⟩|⟨f1,f2⟩
  .cases r with
   |@tup a vs _ ha rs =>
    cases rx
    obtain ⟨_,its,r1,t1⟩:=(Rd.of ha).ok hok
    rcases a0p q p2 with ⟨ys,rfl⟩|⟨g1,g2⟩
    .cases q with
     |@tup b us _ hb qs =>
      cases ry
      obtain ⟨_,its2,r2,t2⟩:=(Rd.of hb).ok hok
      by_cases hab:a=b
      .subst hab;rw [aml (n+1) (.tup ha rs) (.tup hb qs) p1 p2];exact EqAt.same _
      .have l1:its.toArray.size=xs.length:=by rw [aL,<-r1.length,rs.len]
       have l2:its2.toArray.size=ys.length:=by rw [aL,<-r2.length,qs.len]
       have:=RcAt.tuples (A:=A) (s:=s) (e:=pairE xs ys) t1 t2 (by omega) (λj h1 h2=>by
        have j1:j<xs.length:=by omega
        have j2:j<ys.length:=by omega
        obtain ⟨v1,e1,q1⟩:=rs.get (ag j1);obtain ⟨v2,e2,q2⟩:=qs.get (ag j2);obtain ⟨u1,e3,q3⟩:=r1.get e1;obtain ⟨u2,e4,q4⟩:=r2.get e2;have f1:its.toArray[j]=u1:=by simpa using (am.mp e3).2
        have f2:its2.toArray[j]=u2:=by simpa using (am.mp e4).2
        have pe:pairE xs ys j=eqD xs[j] ys[j]:=by simp [pairE,ag j1,ag j2]
        rw [f1,f2,pe];simp only [pur,bY] at p1 p2;exact ih A.in1 q1 q2 q3 q4 (p1 _ (bZ j1)) (p2 _ (bZ j2)) (by rw [Around.in1_units];omega))
       rw [l1,l2,a9f] at this;exact EqAt.of_refs hab this
    .have e0:eqD (.tup xs) e=false:=by cases e<;>first|rfl|(cases g2;done)
     rw [e0]
     cases y with
     |non=>cases ry;exact EqAt.tuple_none t1 (by omega)
     |bl b=>cases ry;exact EqAt.tuple_bool b t1 (by omega)
     |int b=>obtain ⟨t,rfl⟩:=ry;exact EqAt.tuple_int b t t1 (by omega)
     |str b=>obtain ⟨t,rfl⟩:=ry;exact EqAt.tuple_str b t t1 (by omega)
     |_=>cases g1
  .rcases a0p q p2 with ⟨ys,rfl⟩|⟨g1,g2⟩
   .cases q with
    |@tup b us _ hb qs =>
     cases ry
     obtain ⟨_,its2,r2,t2⟩:=(Rd.of hb).ok hok;have e0:eqD d (.tup ys)=false:=by cases d<;>first|rfl|(cases f2;done)
     rw [e0]
     cases x with
     |non=>cases rx;exact EqAt.none_tuple t2 (by omega)
     |bl b=>cases rx;exact EqAt.bool_tuple b t2 (by omega)
     |int b=>obtain ⟨t,rfl⟩:=rx;exact EqAt.int_tuple b t t2 (by omega)
     |str b=>obtain ⟨t,rfl⟩:=rx;exact EqAt.str_tuple b t t2 (by omega)
     |_=>cases f1
   .rw [<-a9h r q f2 g2];exact ai6 rx ry f1 g1
open SeqAt in
theorem avh(ry:RelV y u)(rx:RelV x v)(fy:a3i y=true)(fx:a3i x=true):RcAt A s u v (eqV y x):=by
 cases y with
 |non =>
  cases ry
  cases x with
  |non=>cases rx;exact RcAt.none_none
  |bl b=>cases rx;exact RcAt.none_bool b
  |int b=>obtain ⟨t,rfl⟩:=rx;exact RcAt.none_int b t
  |str b=>obtain ⟨t,rfl⟩:=rx;exact RcAt.none_str b t
  |_=>cases fx
 |bl a =>
  cases ry
  cases x with
  |non=>cases rx;exact RcAt.bool_none a
  |bl b=>cases rx;exact RcAt.bool_bool a b
  |int b=>obtain ⟨t,rfl⟩:=rx;exact RcAt.bool_int a b t
  |str b=>obtain ⟨t,rfl⟩:=rx;exact RcAt.bool_str a b t
  |_=>cases fx
 |int a =>
  obtain ⟨t',rfl⟩:=ry
  cases x with
  |non=>cases rx;exact RcAt.int_none a t'
  |bl b=>cases rx;exact RcAt.int_bool a t' b
  |int b=>obtain ⟨t,rfl⟩:=rx;exact RcAt.int_int a t' b t
  |str b=>obtain ⟨t,rfl⟩:=rx;exact RcAt.int_str a t' b t
  |_=>cases fx
 |str a =>
  obtain ⟨t',rfl⟩:=ry
  cases x with
  |non=>cases rx;exact RcAt.str_none a t'
  |bl b=>cases rx;exact RcAt.str_bool a t' b
  |int b=>obtain ⟨t,rfl⟩:=rx;exact RcAt.str_int a t' b t
  |str b=>obtain ⟨t,rfl⟩:=rx;exact RcAt.str_str a t' b t
  |_=>cases fx
 |_=>cases fy
open SeqAt in
theorem amm(ry:RelV y u)(rx:RelV x v)(fy:a3i y=true)(fx:a3i x=true):RcNeAt A s u v (!eqV y x):=by
 cases y with
 |non =>
  cases ry
  cases x with
  |non=>cases rx;exact RcNeAt.none_none
  |bl b=>cases rx;exact RcNeAt.none_bool b
  |int b=>obtain ⟨t,rfl⟩:=rx;exact RcNeAt.none_int b t
  |str b=>obtain ⟨t,rfl⟩:=rx;exact RcNeAt.none_str b t
  |_=>cases fx
 |bl a =>
  cases ry
  cases x with
  |non=>cases rx;exact RcNeAt.bool_none a
  |bl b=>cases rx;exact RcNeAt.bool_bool a b
  |int b=>obtain ⟨t,rfl⟩:=rx;exact RcNeAt.bool_int a b t
  |str b=>obtain ⟨t,rfl⟩:=rx;exact RcNeAt.bool_str a b t
  |_=>cases fx
 |int a =>
  obtain ⟨t',rfl⟩:=ry
  cases x with
  |non=>cases rx;exact RcNeAt.int_none a t'
  |bl b=>cases rx;exact RcNeAt.int_bool a t' b
  |int b=>obtain ⟨t,rfl⟩:=rx;exact RcNeAt.int_int a t' b t
  |str b=>obtain ⟨t,rfl⟩:=rx;exact RcNeAt.int_str a t' b t
  |_=>cases fx
 |str a =>
  obtain ⟨t',rfl⟩:=ry
  cases x with
  |non=>cases rx;exact RcNeAt.str_none a t'
  |bl b=>cases rx;exact RcNeAt.str_bool a t' b
  |int b=>obtain ⟨t,rfl⟩:=rx;exact RcNeAt.str_int a t' b t
  |str b=>obtain ⟨t,rfl⟩:=rx;exact RcNeAt.str_str a t' b t
  |_=>cases fx
 |_=>cases fy
open SeqAt in
theorem tops{s:Shared}{A:Around}(hok:HOk P w H s.heap)(r:Rep K U H x d)(q:Rep K U H y e)(rx:RelV x u)(ry:RelV y v)(p1:pur 60 d=true)(p2:pur 60 e=true)(hu:A.units+64<cLine) :
  RcAt A s u v (eqD d e)/\RcNeAt A s u v (!eqD d e):=by
 rcases a0p r p1 with ⟨xs,rfl⟩|⟨f1,f2⟩
 .cases r with
  |@tup a vs _ ha rs =>
   cases rx
   obtain ⟨_,its,r1,t1⟩:=(Rd.of ha).ok hok
   rcases a0p q p2 with ⟨ys,rfl⟩|⟨g1,g2⟩
   .cases q with
    |@tup b us _ hb qs =>
     cases ry
     obtain ⟨_,its2,r2,t2⟩:=(Rd.of hb).ok hok;have l1:its.toArray.size=xs.length:=by rw [aL,<-r1.length,rs.len]
     have l2:its2.toArray.size=ys.length:=by rw [aL,<-r2.length,qs.len]
     have step:∀j (h1:j<its.toArray.size) (h2:j<its2.toArray.size),EqAt A.in1 s its.toArray[j] its2.toArray[j] (pairE xs ys j):=λj h1 h2=>by
      have j1:j<xs.length:=by omega
      have j2:j<ys.length:=by omega
      obtain ⟨v1,e1,q1⟩:=rs.get (ag j1);obtain ⟨v2,e2,q2⟩:=qs.get (ag j2);obtain ⟨u1,e3,q3⟩:=r1.get e1;obtain ⟨u2,e4,q4⟩:=r2.get e2;have f1:its.toArray[j]=u1:=by simpa using (am.mp e3).2
      have f2:its2.toArray[j]=u2:=by simpa using (am.mp e4).2
      have pe:pairE xs ys j=eqD xs[j] ys[j]:=by simp [pairE,ag j1,ag j2]
      rw [f1,f2,pe];simp only [pur,bY] at p1 p2;exact avf hok 59 A.in1 q1 q2 q3 q4 (p1 _ (bZ j1)) (p2 _ (bZ j2)) (by rw [Around.in1_units];omega)
     have c1:=RcAt.tuples (A:=A) (s:=s) (e:=pairE xs ys) t1 t2 (by omega) step
     have c2:=RcNeAt.tuples (A:=A) (s:=s) (e:=pairE xs ys) t1 t2 (by omega) step
     rw [l1,l2,a9f] at c1 c2;exact ⟨c1,c2⟩
   .have e0:eqD (.tup xs) e=false:=by cases e<;>first|rfl|(cases g2;done)
    rw [e0]
    cases y with
    |non=>cases ry;exact ⟨RcAt.tuple_none t1 (by omega),RcNeAt.tuple_none t1 (by omega)⟩
    |bl b=>cases ry;exact ⟨RcAt.tuple_bool b t1 (by omega),RcNeAt.tuple_bool b t1 (by omega)⟩
    |int b=>obtain ⟨t,rfl⟩:=ry;exact ⟨RcAt.tuple_int b t t1 (by omega),RcNeAt.tuple_int b t t1 (by omega)⟩
    |str b=>obtain ⟨t,rfl⟩:=ry;exact ⟨RcAt.tuple_str b t t1 (by omega),RcNeAt.tuple_str b t t1 (by omega)⟩
    |_=>cases g1
 .rcases a0p q p2 with ⟨ys,rfl⟩|⟨g1,g2⟩
  .cases q with
   |@tup b us _ hb qs =>
    cases ry
    obtain ⟨_,its2,r2,t2⟩:=(Rd.of hb).ok hok;have e0:eqD d (.tup ys)=false:=by cases d<;>first|rfl|(cases f2;done)
    rw [e0]
    cases x with
    |non=>cases rx;exact ⟨RcAt.none_tuple t2 (by omega),RcNeAt.none_tuple t2 (by omega)⟩
    |bl b=>cases rx;exact ⟨RcAt.bool_tuple b t2 (by omega),RcNeAt.bool_tuple b t2 (by omega)⟩
    |int b=>obtain ⟨t,rfl⟩:=rx;exact ⟨RcAt.int_tuple b t t2 (by omega),RcNeAt.int_tuple b t t2 (by omega)⟩
    |str b=>obtain ⟨t,rfl⟩:=rx;exact ⟨RcAt.str_tuple b t t2 (by omega),RcNeAt.str_tuple b t t2 (by omega)⟩
    |_=>cases f1
  .rw [<-a9h r q f2 g2];exact ⟨avh rx ry f1 g1,amm rx ry f1 g1⟩
noncomputable def b08(K:PySem.W.Frag):R2:=λx y H Q=>∃U d e,Rep K U H x d/\Rep K U H y e/\pur 60 d=true/\pur 60 e=true/\Q (.bl (eqD d e)) H
noncomputable def b09(K:PySem.W.Frag):R2:=λx y H Q=>∃U d e,Rep K U H x d/\Rep K U H y e/\pur 60 d=true/\pur 60 e=true/\Q (.bl (!eqD d e)) H
theorem ap5{X:Cx}(hu:X.A.units+64<cLine):OpR X (compareOp .Eq) (b08 X.K):=by
 intro pins s Z H x y v u Q I rx ry h
 obtain ⟨U,d,e,r,q,p1,p2,hq⟩:=h;exact (tops (A:=X.A) I.hok r q rx ry p1 p2 hu).1 X.prog X.w X.xe _ ⟨.bl _,H,I,rfl,hq⟩
theorem a77{X:Cx}(hu:X.A.units+64<cLine):OpR X (compareOp .NotEq) (b09 X.K):=by
 intro pins s Z H x y v u Q I rx ry h
 obtain ⟨U,d,e,r,q,p1,p2,hq⟩:=h;exact (tops (A:=X.A) I.hok r q rx ry p1 p2 hu).2 X.prog X.w X.xe _ ⟨.bl _,H,I,rfl,hq⟩
noncomputable def hEq(x y:D)(h:Hd):R D:=if pur 60 x=true/\pur 60 y=true then .ok (.bl (eqD x y)) h else .no
noncomputable def hNe(x y:D)(h:Hd):R D:=if pur 60 x=true/\pur 60 y=true then .ok (.bl (!eqD x y)) h else .no
theorem aiw:a4w K hEq (b08 K):=by
 intro E U H h x y dx dy Q rx ry hr o
 unfold hEq at o
 split at o
 .rename_i hc;exact ⟨U,dx,dy,rx,ry,hc.1,hc.2,ans o (.bl _) hr⟩
 .exact o.elim
theorem a3r:a4w K hNe (b09 K):=by
 intro E U H h x y dx dy Q rx ry hr o
 unfold hNe at o
 split at o
 .rename_i hc;exact ⟨U,dx,dy,rx,ry,hc.1,hc.2,ans o (.bl _) hr⟩
 .exact o.elim
end
section
variable{X:Cx}{E:XD}{K:PySem.W.Frag}
def ar7:SE:=λ_ h=>.ok (.ref h.length) (h++[.dK []])
noncomputable def az3:D->D->Hd->R D
 |.int i,.int j,h=>.ok (.int (i+j)) h
 |.str x,.str y,h=>if x.length+y.length<=LINE then .ok (.str (x++y)) h else .no
 |_,_,_=>.no
theorem avi:bootBuiltins "min" = some (.builtin "min"):=by first|exact PySem.boot_min|exact PyProof.Rows.boot_min
theorem ar8:bootBuiltins "bool" = some (.type "bool"):=by first|exact PySem.boot_bool|exact PyProof.Rows.boot_bool
theorem ap6:bootBuiltins "sum" = some (.builtin "sum"):=by first|exact PySem.boot_sum|exact PyProof.Rows.boot_sum
theorem ue(h1:MG X E e g)(h2:MGs X E es ks)(hs:(assignEach (e::es) X.env).map (·.2)=assign e X.env::(assignEach es X.env).map (·.2):=by rfl):MGs X E (e::es) (xj g ks) :=
 PGs.weak (ud h1 h2 hs) λvs Z H Q q=>amd q
end
end MI
namespace ZP
open PySem.Builtin PySem.Builtin.SmallTypes
section
variable{prog:Program}{w:World}{A:Around}{E:Value->Shared->Prop}{s:Shared}
theorem ar9{α:Type}{Q:α->Shared->Prop}(hh:A.handled=none)(q:∀h' e,(∀b o,s.heap.get? b=some o->h'.get? b=some o)->(∃o,h'.get? e=some o/\o.cls=.type "StopIteration")->E (.ref e) {s with heap:=h' }) :
  wpAny (model prog w) A (stopIteration:Sem α) Q E s:=by
 have none_first:firstArgMember (.type "StopIteration") []=pure Value.none:=by first|rfl|(simp only [firstArgMember];rfl)
 rw [stopIteration]
 apply af
 rw [newExc,newTuple]
 apply af
 apply cA _ (by size_fits)
 rw [none_first,pure_bind]
 apply cA _ (by size_fits)
 apply wpAny_raiseNew_none hh
 exact q _ _ (λb o z=>ai _ (ai _ z)) ⟨_,aJ _ rfl,rfl⟩
theorem amn(hi:s.heap.IsTupleIter it t i)(ht:s.heap.IsTuple t items)(hx:items[i]? = some x)
  (q:∀h',h'.IsTupleIter it t (i+1)->Heap.SameBut it s.heap h'->Q x {s with heap:=h' }):wpAny (model prog w) A (nextOf (.ref it)) Q E s:=by
 have ty:=hi.typeIs;obtain ⟨o,e1,e2,e3⟩:=id hi;obtain ⟨p,f1,f2,n,f3⟩:=ht;rw [nextOf]
 apply af
 apply cK (name:=Str.ofString "__next__") ty dL
 apply bX dL ty gQ _ (gL _)
 change wpAny (model prog w) A.in1 (field (.ref it) 0>>=_) _ _ _
 apply af;apply cR e1 e3 (x:=.ref t) rfl
 change wpAny (model prog w) A.in1 (field (.ref it) 1>>=_) _ _ _
 apply af;apply cR e1 e3 (x:=.int i 0) rfl
 change wpAny (model prog w) A.in1 (seqItems? (.ref t)>>=_) _ _ _
 apply af;apply dE f1 f3
 dsimp only;rw [cv,hx]
 apply af
 obtain ⟨c,dd,dt,sl⟩:=o;simp only at e2 e3;subst e2 e3
 apply wpAny_setField e1 rfl (eH 1)
 apply ar
 exact ⟨x,rfl,ar (q _ ⟨_,bG _ e1 rfl,rfl,rfl⟩ (bP ..))⟩
theorem ara{it t:Addr}{i:Nat}{items:Array Value}{Q:Value->Shared->Prop}(hh:A.handled=none)(hi:s.heap.IsTupleIter it t i)(ht:s.heap.IsTuple t items)(hx:items[i]? = none)
  (q:∀h' e,Heap.ExtBut it s.heap h'->(∃o,h'.get? e=some o/\o.cls=.type "StopIteration")->E (.ref e) {s with heap:=h' }):wpAny (model prog w) A (nextOf (.ref it)) Q E s:=by
 have ty:=hi.typeIs;obtain ⟨o,e1,e2,e3⟩:=id hi;obtain ⟨p,f1,f2,n,f3⟩:=ht;rw [nextOf]
 apply af
 apply cK (name:=Str.ofString "__next__") ty dL
 apply bX dL ty gQ _ (gL _)
 change wpAny (model prog w) A.in1 (field (.ref it) 0>>=_) _ _ _
 apply af;apply cR e1 e3 (x:=.ref t) rfl
 change wpAny (model prog w) A.in1 (field (.ref it) 1>>=_) _ _ _
 apply af;apply cR e1 e3 (x:=.int i 0) rfl
 change wpAny (model prog w) A.in1 (seqItems? (.ref t)>>=_) _ _ _
 apply af;apply dE f1 f3
 dsimp only;rw [cv,hx];dsimp only;obtain ⟨c,dd,dt,sl⟩:=o;simp only at e2 e3;subst e2 e3
 apply af;apply eU
 apply af;apply wpAny_setField e1 rfl (dF 1)
 apply ar9 (show A.in1.handled=none from hh)
 exact λh' e k z=>q h' e (λb o nb eb=>k b o ((bP ..).extBut b o nb eb)) z
theorem aix{A:Around}(hh:A.handled=none)(it t:Addr)(ne:t≠it)(items:Array Value):Draws prog w A it [it,t] items.size (λi v=>items[i]? = some v) (λi h=>h.IsTupleIter it t i/\h.IsTuple t items) where
 live:=λ_ _ st=>let ⟨o,e,_⟩:=st.1; ⟨o,e⟩
 frame:=λ_ _ _ st k=>⟨let ⟨o,e,r⟩:=st.1; ⟨o,k it (by simp) o e,r⟩,let ⟨o,e,r⟩:=st.2; ⟨o,k t (by simp) o e,r⟩⟩
 item:=λi s Q E hi st q=>amn st.1 st.2 (cC hi) λh' a b=>q _ h' s.toks (cC hi) ⟨a,st.2.extBut b.extBut ne⟩ b
 done:=λs Q E st q=>ara hh st.1 st.2 (by simp) q
end
end ZP
namespace ZP
open PySem.Builtin PySem.Builtin.SmallTypes L2
inductive Srk where
 |tup (a:Addr)|lst (a:Addr)|str (x:Str)
def Srk.v:Srk->V
 |.tup a=>.ref a
 |.lst a=>.ref a
 |.str x=>.str x
noncomputable def its(H:Hp):Srk->Option (List V)
 |.tup a=>match H a with|some (.tup vs)=>some vs|_=>none
 |.lst a=>match H a with|some (.lst vs)=>some vs|some (.frz _ (.lst vs))=>some vs|_=>none
 |.str x=>some (a1r x)
def own(it:Addr)(t:Tok):Srk->Nat->Heap->Prop
 |.tup a,i,h=>h.IsTupleIter it a i
 |.lst a,i,h=>h.IsListIter it a i
 |.str x,i,h=>h.IsStrIter it (strIterType x) x t i
noncomputable def iob(t:Tok):Srk->Obj
 |.tup a=>{cls:=.type "tuple_iterator",data:=.fields #[.ref a,.int 0 0]}
 |.lst a=>{cls:=.type "list_iterator",data:=.fields #[.ref a,.int 0 0]}
 |.str x=>{cls:=.type (strIterType x),data:=.fields #[.str x t,.int 0 0]}
def val(t:Tok):Srk->Value
 |.tup a=>.ref a
 |.lst a=>.ref a
 |.str x=>.str x t
def cont(h:Heap):Srk->List Value->Prop
 |.tup a,us=>h.IsTuple a us.toArray
 |.lst a,us=>h.IsList a us.toArray
 |.str x,us=>True
theorem b1l{h:Heap}(e:h.get? it=some (iob t k)):own it t k 0 h:=by
 cases k with
 |tup a=>exact ⟨_,e,rfl,rfl⟩
 |lst a=>exact ⟨_,e,rfl,rfl⟩
 |str x=>exact ⟨_,e,rfl,rfl⟩
theorem aiy(o:own it t k i h):∃ob,h.get? it=some ob/\∀v,ob.data≠.cell v:=by
 cases k with
 |tup a=>obtain ⟨ob,e,_,d⟩:=o;exact ⟨ob,e,λv z=>by rw [d] at z;cases z⟩
 |lst a=>obtain ⟨ob,e,_,d⟩:=o;exact ⟨ob,e,λv z=>by rw [d] at z;cases z⟩
 |str x=>obtain ⟨ob,e,_,d⟩:=o;exact ⟨ob,e,λv z=>by rw [d] at z;cases z⟩
theorem a1g{h':Heap}(o:own it t k i h)(kk:∀ob,h.get? it=some ob->h'.get? it=some ob):own it t k i h':=by
 cases k with
 |tup a=>obtain ⟨ob,e,r⟩:=o;exact ⟨ob,kk _ e,r⟩
 |lst a=>obtain ⟨ob,e,r⟩:=o;exact ⟨ob,kk _ e,r⟩
 |str x=>obtain ⟨ob,e,r⟩:=o;exact ⟨ob,kk _ e,r⟩
section
variable{P:Program}{w:World}{H:Hp}{s:Shared}
theorem ad0(I:Inv X pins Z H s)(e:its H k=some xs):∃us,cont s.heap k us/\((∀x,k≠.str x)->Vals xs us):=by
 cases k with
 |tup a =>
  cases q:H a with
  |none=>simp [its,q] at e
  |some o =>
   cases o with
   |tup vs =>
    simp [its,q] at e;subst e
    obtain ⟨us,r,t,_⟩:=I.tuple (SqT.of q);exact ⟨us,t,λ_=>r⟩
   |_=>simp [its,q] at e
 |lst a =>
  cases q:H a with
  |none=>simp [its,q] at e
  |some o =>
   cases o with
   |lst vs =>
    simp [its,q] at e;subst e
    obtain ⟨us,r,t,_⟩:=I.list (SqL.of q);exact ⟨us,t.isList,λ_=>r⟩
   |frz ob u =>
    cases u with
    |lst vs =>
     simp [its,q] at e;subst e
     obtain ⟨us,r,t,_⟩:=I.list (.inl (.inr ⟨_,q⟩));exact ⟨us,t.isList,λ_=>r⟩
    |_=>simp [its,q] at e
   |_=>simp [its,q] at e
 |str x=>exact ⟨[],True.intro,λn=>absurd rfl (n x)⟩
theorem arb(I:Inv X pins Z H s)(e:its H k=some xs)(hn:H it=none) :
  ∃(cs:List Addr) (P1:Nat->Value->Prop) (S1:Nat->Heap->Prop),(∀A:Around,A.handled=none->Draws X.prog X.w A it (it::cs) xs.length P1 S1)/\(∀i,own it t k i s.heap->S1 i s.heap)/\(∀i h,S1 i h->own it t k i h)/\(∀c∈cs,H c≠none) /\
   ∀i v,P1 i v->∃x,xs[i]? = some x/\RelV x v:=by
 cases k with
 |tup a =>
  obtain ⟨us,c,r⟩:=ad0 I e;have r:=r (by intro x z;cases z)
  have ha:H a≠none:=λz=>by simp [its,z] at e
  have l:us.toArray.size=xs.length:=by rw [aL,r.length]
  refine ⟨[a],λi v=>us.toArray[i]? = some v,λi h=>h.IsTupleIter it a i/\h.IsTuple a us.toArray,λA hA=>?_,λi o=>⟨o,c⟩,λi h z=>z.1,λc hc=>by rw [aD.mp hc];exact ha,λi v z=>?_⟩
  .have:=aix (prog:=X.prog) (w:=X.w) hA it a (λy=>ha (y ▸ hn)) us.toArray
   rw [l] at this;exact this
  .have z':us[i]? = some v:=by simpa using z
   have hi:i<xs.length:=by rw [r.length];exact (am.mp z').1
   obtain ⟨u,e1,e2⟩:=r.get (ag hi);rw [z'] at e1;cases e1
   exact ⟨_,ag hi,e2⟩
 |lst a =>
  obtain ⟨us,c,r⟩:=ad0 I e;have r:=r (by intro x z;cases z)
  have ha:H a≠none:=λz=>by simp [its,z] at e
  have l:us.toArray.size=xs.length:=by rw [aL,r.length]
  refine ⟨[a],λi v=>us.toArray[i]? = some v,λi h=>h.IsListIter it a i/\h.IsList a us.toArray,λA hA=>?_,λi o=>⟨o,c⟩,λi h z=>z.1,λc hc=>by rw [aD.mp hc];exact ha,λi v z=>?_⟩
  .have:=Draws.list (prog:=X.prog) (w:=X.w) hA it a (λy=>ha (y ▸ hn)) us.toArray
   rw [l] at this;exact this
  .have z':us[i]? = some v:=by simpa using z
   have hi:i<xs.length:=by rw [r.length];exact (am.mp z').1
   obtain ⟨u,e1,e2⟩:=r.get (ag hi);rw [z'] at e1;cases e1
   exact ⟨_,ag hi,e2⟩
 |str x =>
  cases e
  have l:(a1r x).length=x.cps.size:=by simp [a1r]
  refine ⟨[],λi v=>∃c u,x.cps[i]? = some c/\v=.str ⟨#[c]⟩ u,λi h=>h.IsStrIter it (strIterType x) x t i,λA hA=>?_,λi o=>o,λi h z=>z,λc hc=>(by cases hc),λi v z=>?_⟩
  .rw [l]
   cases ha:x.cps.all (· < 128)
   .have:=Draws.strWide (prog:=X.prog) (w:=X.w) hA it x t
    simpa [strIterType,ha] using this
   .have:=Draws.strAscii (prog:=X.prog) (w:=X.w) hA it x t
    simpa [strIterType,ha] using this
  .obtain ⟨c,u,e1,rfl⟩:=z;exact ⟨.str ⟨#[c]⟩,by simp [a1r,e1],⟨_,rfl⟩⟩
end
theorem a9i{X:Cx}{pins:List (Addr×Obj)}{Z:St}{H:Hp}{s:Shared}{h':Heap}{t':Nat}{ch:List Addr}(I:Inv X pins Z H s)(hf:∀b∈ch,FpOk X pins H b)(k:∀b o,b∉ch->s.heap.get? b=some o->h'.get? b=some o) :
  Inv X pins Z H {s with heap:=h',toks:=t' }:=by
 have nit:∀b u,H b=some u->b∉ch:=λb u e z=>by rw [(hf b z).1] at e;cases e
 refine I.step (g':=s.gens) (d':=s.drawn) (ch:=ch) (λb hb=>?_) (λb o _ _ hc e _=>k b o hc e) (λb o _ _ hc e _=>⟨o.slots,k b o hc e⟩) (λ_ _ _ _ n=>n) (λb o hc e=>⟨o,k b o hc e⟩) (λ_ _ e=>e) (λ_ _ _ e=>e)
  (λb ps e=>⟨#[],by rw [e];simp⟩) (λm hm=>?_) (λb u e=>?_) I.bare
 .obtain ⟨_,f1,_,f3,f4,f5⟩:=hf b hb;exact ⟨f3,f1,f4,f5⟩
 .obtain ⟨o,es,ep,ho,r⟩:=hm;exact ⟨o,es,ep,k _ o (λz=>(hf _ z).2.1 rfl) ho,r⟩
 .refine (I.hok b u e).stay (λc v hc q=>k c v ?_ q) (λ_ q=>q) λ_ _ q=>q
  rcases hc with z|z
  .rw [z];exact nit b u e
  .exact nit c _ z
theorem amo{s:Shared}(c:cont s.heap k us)(q:Q (.ref s.heap.objs.size) {s with heap:=s.heap.push (iob t k)}) :
  wpAny (model prog w) A (pyIter (val t k)) Q E s:=by
 cases k with
 |tup a=>exact gY c q
 |lst a=>exact fX c q
 |str x=>exact wpAny_pyIter_strU q
section
variable{X:Cx}{elts:List Expr}{x1:Nat}{tpos:Pos}
theorem avj{k:Srk}(r:RelV k.v u):∃t,u=val t k:=by
 cases k with
 |tup a=>cases r;exact ⟨0,rfl⟩
 |lst a=>cases r;exact ⟨0,rfl⟩
 |str x=>obtain ⟨t,rfl⟩:=r;exact ⟨t,rfl⟩
end
end ZP
namespace MI
open L2 ZP
def srcOf(d:D)(h:Hd):Option (List D×(Hd->Prop)):=match d with
 |.tup xs=>some (xs,λ_=>True)
 |.rol xs=>some (xs,λ_=>True)
 |.str x=>some (a1z x,λ_=>True)
 |.ref i=>(match h[i]? with|some (.lst xs)=>some (xs,λh=>h[i]? = some (.lst xs))|_=>none)
 |_=>none
noncomputable def axw(x y:D)(h:Hd):R Itm:=match srcOf x h,srcOf y h with
 |some (xs,c1),some (ys,c2)=>.ok ⟨(xs.zip ys).map λp=>.tup [p.1,p.2],λh=>c1 h/\c2 h⟩ h
 |_,_=>.no
def ad1(f g:SE):SI:=λτ h=>(f τ h).bind λx h1=>(g τ h1).bind λy h2=>axw x y h2
theorem a78(r:Rep K U H v d)(hr:HRep K U H h)(e:srcOf d h=some (xs,ck)) :
  ∃k:Srk,v=k.v/\ck h/\∀U' H' h',Gr U H U' H'->HRep K U' H' h'->ck h'->∃vs,its H' k=some vs/\Reps K U' H' vs xs:=by
 cases r with
 |@tup a vs ys ha rs =>
  cases e
  exact ⟨.tup a,rfl,True.intro,λU' H' h' g _ _=>⟨vs,by simp [its,g.tup _ _ ha],rs.mono g⟩⟩
 |@rol a vs ys ha rs =>
  cases e
  refine ⟨.lst a,rfl,True.intro,λU' H' h' g _ _=>⟨vs,?_,rs.mono g⟩⟩;obtain ⟨o,q⟩:=ha.mono g;simp [its,q]
 |str x =>
  cases e
  exact ⟨.str x,rfl,True.intro,λU' H' h' g _ _=>⟨_,rfl,a8q x⟩⟩
 |@ref a i ha =>
  obtain ⟨ob,e1,e2⟩:=hr.at ha
  cases ob with
  |lst zs =>
   simp only [srcOf,e1] at e;cases e
   refine ⟨.lst a,rfl,e1,λU' H' h' g hr' c=>?_⟩;obtain ⟨us,q1,q2⟩:=hr'.obj i a _ (g.at ha) c;exact ⟨us,by simp [its,q1],q2⟩
  |dK _=>simp only [srcOf,e1] at e;cases e
  |dT _=>simp only [srcOf,e1] at e;cases e
 |_=>cases e
theorem abh:bootBuiltins "zip" = some (.type "zip"):=by first|exact PySem.boot_zip|exact PyProof.Rows.boot_zip|rfl
end MI
namespace MI
open L2
section
variable{P:Program}{w:World}{K:PySem.W.Frag}{mg:Str->Option Value}{base:Heap}
theorem a79:FnOk P w K mg base CX0 k f fd ps (qd K ps.length λ_ _=>.no) :=
 ⟨λvs H Q E h=>h.1,λA outer s H args us vs Q E hr he hb hv hs=>by obtain ⟨_,U,ds,h,_,_,o⟩:=hs;exact o.elim⟩
end
def FrzOf(L:List Addr)(H H2:Hp):Prop:=∀a,(a∉L->H2 a=H a)/\(a∈L->∃o u,H a=some u/\H2 a=some (.frz o u))
def agh(H:Hp)(L:List Addr):Prop:=∀a∈L,(∃xs,H a=some (.lst xs))\/(∃kvs,H a=some (.dK kvs))\/∃kvs,H a=some (.dT kvs)
def still:HO->Prop
 |.lst _=>False|.dK _=>False|.dT _=>False
 |_=>True
theorem FrzOf.still(f:FrzOf L H H2)(ab:agh H L)(e:H a=some u)(st:MI.still u):H2 a=some u:=by
 rw [(f a).1 λz=>?_]
 .exact e
 .rcases ab a z with ⟨_,q⟩|⟨_,q⟩|⟨_,q⟩<;>(rw [e] at q;cases q;exact st)
theorem Inv.frz{X:Cx}{pins:List (Addr×Obj)}{Z:St}{H:Hp}{s:Shared}{L:List Addr}(I:Inv X pins Z H s)(ab:agh H L):∃H2,FrzOf L H H2/\Inv X pins Z H2 s:=by
 have obj:∀a∈L,∀u,H a=some u->∃o,s.heap.get? a=some o:=λa ha u e=>by
  rcases ab a ha with ⟨_,q⟩|⟨_,q⟩|⟨_,q⟩
  .obtain ⟨_,_,_,_,z⟩:=I.hok a _ q;exact ⟨_,z⟩
  .obtain ⟨_,_,_,_,z⟩:=I.hok a _ q;obtain ⟨o,_,_,z,_⟩:=z;exact ⟨o,z⟩
  .obtain ⟨_,_,_,_,o,_,_,z,_⟩:=I.hok a _ q;exact ⟨o,z⟩
 let H2:Hp:=λa=>if a∈L then (match s.heap.get? a,H a with|some o,some u=>some (.frz o u)|_,w=>w) else H a
 have f:FrzOf L H H2:=λa=>⟨λh=>by simp [H2,h],λh=>by
  obtain ⟨u,e⟩:∃u,H a=some u:=by
   rcases ab a h with ⟨_,q⟩|⟨_,q⟩|⟨_,q⟩<;>exact ⟨_,q⟩
  obtain ⟨o,eo⟩:=obj a h u e;exact ⟨o,u,e,by simp [H2,h,e,eo]⟩⟩
 refine ⟨H2,f,?_⟩;have mv:∀a u,ObjOk X.prog X.w H s.heap a u->ObjOk X.prog X.w H2 s.heap a u:=λa u x=>x.stay (λb v _ q=>q) (λc q=>f.still ab q True.intro) λc xs q=>f.still ab q True.intro;have ok:HOk X.prog X.w H2 s.heap:=λa u e=>by
  by_cases hl:a∈L
  .obtain ⟨u0,e0⟩:∃u,H a=some u:=by
    rcases ab a hl with ⟨_,q⟩|⟨_,q⟩|⟨_,q⟩<;>exact ⟨_,q⟩
   obtain ⟨o,eo⟩:=obj a hl u0 e0;have e':H2 a=some (.frz o u0):=by simp [H2,hl,e0,eo]
   rw [e'] at e;cases e
   exact ⟨eo,mv a u0 (I.hok a u0 e0)⟩
  .rw [(f a).1 hl] at e;exact mv a u (I.hok a u e)
 have fn:∀b,H b=none->H2 b=none:=λb n=>by
  rw [(f b).1 λz=>?_]
  .exact n
  .rcases ab b z with ⟨_,q⟩|⟨_,q⟩|⟨_,q⟩<;>(rw [n] at q;cases q)
 have un:Un X.fs [] H H2 s.heap s.heap:=⟨λb o q _ _ _=>q,λb o q _ _ _=>⟨o.slots,q⟩,λb o _ n _=>fn b n,λb o q _=>⟨o,q⟩,λb xs q=>f.still ab q True.intro,λb o u q=>f.still ab q True.intro,λb ps q=>⟨#[],by rw [f.still ab q True.intro];simp⟩⟩
 exact I.un (t':=s.toks) un ok
theorem aiz(h:PE X e t):PE X e (λZ H Q=>t Z H λv H1=>∃L,agh H1 L/\∀H2,FrzOf L H1 H2->Q v H2):=λpins s Z H Q I q =>
 thn (h pins s Z H _ I q) λu s' ⟨v,H1,I1,r,L,ab,k⟩=>let ⟨H2,f,I2⟩:=Inv.frz I1 ab; ⟨v,H2,I2,r,k H2 f⟩
noncomputable def a03{α β:Type}(f:α->Option β):List α->Option (List β)
 |[]=>some []
 |x::xs=>match f x,a03 f xs with|some y,some ys=>some (y::ys)|_,_=>none
open Classical in
def a88(n:Nat)(h:Hd):Nat->D->Option D
 |0,_=>none
 |k+1,d=>if clo n d then some d else match d with
  |.tup xs=>(a03 (a88 n h k) xs).map .tup
  |.rol xs=>(a03 (a88 n h k) xs).map .rol
  |.scr xs=>(a03 (a88 n h k) xs).map .scr
  |.rod ks xs=>(a03 (a88 n h k) xs).map (.rod ks)
  |.rdT ks xs=>(a03 (a88 n h k) xs).map (.rdT ks)
  |.ref i=>match h[i]? with
   |some (.lst xs)=>(a03 (a88 n h k) xs).map .rol
   |some (.dK kvs)=>(a03 (a88 n h k) (kvs.map (·.2))).map (.rod (kvs.map (·.1)))
   |some (.dT kvs)=>(a03 (a88 n h k) (kvs.map (·.2))).map (.rdT (kvs.map (·.1)))
   |none=>none
  |_=>none
open Classical in
def avk(n:Nat)(h:Hd)(k:Nat)(o:O):Option O:=if ux n o then some o else match o with
 |.lst xs=>(a03 (a88 n h k) xs).map .lst
 |.dK kvs=>(a03 (a88 n h k) (kvs.map (·.2))).map λys=>.dK ((kvs.map (·.1)).zip ys)
 |.dT kvs=>(a03 (a88 n h k) (kvs.map (·.2))).map λys=>.dT ((kvs.map (·.1)).zip ys)
abbrev FU:Nat:=20
def a9j(n:Nat):R D->R D
 |.ok d h1=>match a88 n h1 FU d,a03 (avk n h1 FU) (h1.take n) with|some d',some g=>.ok d' g|_,_=>.no
 |_=>.no
open Classical in
def ath(n:Nat):R D->R D
 | .ok (.ref i) h1=>(match h1[i]? with
   |some o=>if n<=i/\ux n o/\∀u∈h1.take n,ux n u then .ok (.ref n) (h1.take n++[o]) else .no
   |none=>.no)
 |_=>.no
section
variable{K:PySem.W.Frag}{U U':List Addr}{H H' H2:Hp}{h1:Hd}{n:Nat}{L:List Addr}
theorem aer(f:FrzOf L H' H2)(ab:agh H' L)(κ:List Addr):Gw κ H' κ H2:=⟨⟨[],by simp⟩,λa vs e=>f.still ab e True.intro,λa o u e=>f.still ab e True.intro⟩
theorem qz(ih:∀{v d d'},Rep K U H v d->f d=some d'->Rep K κ H2 v d'):∀{vs:List V} {ds ds':List D},Reps K U H vs ds->a03 f ds=some ds'->Reps K κ H2 vs ds'
 |_,_,_,.nil,e=>by cases e;exact .nil
 |_,x::xs,_,.cons r rs,e=>by
  unfold a03 at e
  split at e
  .rename_i y ys h1 h2;cases e
   exact .cons (ih r h1) (qz ih rs h2)
  .cases e
theorem a9k(hr:HRep K U' H' h1)(hL:∀(i:Nat) a,U'[i]? = some a->n<=i->a∈L)(f:FrzOf L H' H2)(ab:agh H' L):∀(k:Nat) {v:V} {d d':D},Rep K U' H' v d->a88 n h1 k d=some d'->Rep K (U'.take n) H2 v d':=by
 intro k
 induction k with
 |zero=>intro v d d' r e;cases e
 |succ k ih =>
  intro v d d' r e
  unfold a88 at e
  split at e
  .rename_i c;cases e
   exact (r.cut c).monoW (aer f ab _)
  .rename_i c
   cases r with
   |tup h rs =>
    simp only [aQ] at e;obtain ⟨ys,e1,rfl⟩:=e;exact .tup (f.still ab h True.intro) (qz (λr e=>ih r e) rs e1)
   |rol h rs =>
    simp only [aQ] at e;obtain ⟨ys,e1,rfl⟩:=e;exact .rol (h.monoW (aer f ab U')) (qz (λr e=>ih r e) rs e1)
   |scr h rs =>
    simp only [aQ] at e;obtain ⟨ys,e1,rfl⟩:=e;exact .scr (h.monoW (aer f ab U')) (qz (λr e=>ih r e) rs e1)
   |rod h ek rs =>
    simp only [aQ] at e;obtain ⟨ys,e1,rfl⟩:=e;exact .rod (f.still ab h True.intro) ek (qz (λr e=>ih r e) rs e1)
   |rdT h ek rs =>
    simp only [aQ] at e;obtain ⟨ys,e1,rfl⟩:=e;exact .rdT (f.still ab h True.intro) ek (qz (λr e=>ih r e) rs e1)
   |@ref a i ha =>
    have hi:n<=i:=by
     simp only [clo] at c;omega
    obtain ⟨o,u,e1,e2⟩:=(f a).2 (hL i a ha hi);obtain ⟨ob,h3,h4⟩:=hr.at ha;simp only [h3] at e
    cases ob with
    |lst xs =>
     simp only [aQ] at e;obtain ⟨ys,e3,rfl⟩:=e;obtain ⟨vs,h5,h6⟩:=h4;rw [e1] at h5;cases h5
     exact .rol ⟨o,e2⟩ (qz (λr e=>ih r e) h6 e3)
    |dK kvs =>
     simp only [aQ] at e;obtain ⟨ys,e3,rfl⟩:=e;obtain ⟨us,h5,h6,h7⟩:=h4;rw [e1] at h5;cases h5
     exact .rod e2 h6 (qz (λr e=>ih r e) h7 e3)
    |dT kvs =>
     simp only [aQ] at e;obtain ⟨ys,e3,rfl⟩:=e;obtain ⟨us,h5,h6,h7⟩:=h4;rw [e1] at h5;cases h5
     exact .rdT e2 h6 (qz (λr e=>ih r e) h7 e3)
   |non=>simp only [clo,eC] at c
   |exc _ _ _=>simp only [clo,eC] at c
   |bl b=>simp only [clo,eC] at c
   |int b=>simp only [clo,eC] at c
   |str b=>simp only [clo,eC] at c
   |ty b=>simp only [clo,eC] at c
theorem aes{κ:Type}{H:Hp}{us:List (κ×V)}{ks:List κ}{ys:List D}(e:us.map (·.1)=ks)(r:Reps K U H (us.map (·.2)) ys):KRep K U H us (ks.zip ys):=by
 have l:ks.length=ys.length:=by rw [<-e,ax,<-r.len,ax]
 refine ⟨?_,?_⟩
 .rw [List.map_fst_zip (by omega)];exact e
 .rw [List.map_snd_zip (by omega)];exact r
theorem arc(hr:HRep K U' H' h1)(hL:∀(i:Nat) a,U'[i]? = some a->n<=i->a∈L)(f:FrzOf L H' H2)(ab:agh H' L){k:Nat}(na:a∉L)(r:ORep K U' H' a o)(e:avk n h1 k o=some o'):ORep K (U'.take n) H2 a o':=by
 have same:H2 a=H' a:=(f a).1 na;unfold avk at e
 split at e
 .rename_i c;cases e
  exact (r.cut c).monoW (aer f ab _) same
 .cases o with
  |lst xs =>
   simp only [aQ] at e;obtain ⟨ys,e1,rfl⟩:=e;obtain ⟨vs,h3,h4⟩:=r;exact ⟨vs,by rw [same];exact h3,qz (λr e=>a9k hr hL f ab k r e) h4 e1⟩
  |dK kvs =>
   simp only [aQ] at e;obtain ⟨ys,e1,rfl⟩:=e;obtain ⟨us,h3,h4,h5⟩:=r;exact ⟨us,by rw [same];exact h3,aes h4 (qz (λr e=>a9k hr hL f ab k r e) h5 e1)⟩
  |dT kvs =>
   simp only [aQ] at e;obtain ⟨ys,e1,rfl⟩:=e;obtain ⟨us,h3,h4,h5⟩:=r;exact ⟨us,by rw [same];exact h3,aes h4 (qz (λr e=>a9k hr hL f ab k r e) h5 e1)⟩
theorem a2o{α β:Type}{f:α->Option β}:∀{xs:List α} {ys:List β},a03 f xs=some ys->xs.length=ys.length/\∀(i:Nat) y,ys[i]? = some y->∃x,xs[i]? = some x/\f x=some y
 |[],_,e=>by cases e;exact ⟨rfl,λi y e=>by simp at e⟩
 |x::xs,ys,e=>by
  unfold a03 at e
  split at e
  .rename_i y ys h1 h2;cases e
   obtain ⟨l,g⟩:=a2o h2;refine ⟨by simp [l],λi z e=>?_⟩
   cases i with
   |zero=>simp at e;subst e;exact ⟨x,rfl,h1⟩
   |succ i=>simpa using g i z (by simpa using e)
  .cases e
theorem aj0(hr:HRep K U' H' h1)(M:List Addr)(hM:∀a∈M,a∈U'):agh H' M:=λa ha=>by
 obtain ⟨i,hi⟩:=cO (hM a ha);obtain ⟨o,_,q⟩:=hr.at hi
 cases o with
 |lst xs=>obtain ⟨vs,h,_⟩:=q;exact .inl ⟨_,h⟩
 |dK xs=>obtain ⟨vs,h,_⟩:=q;exact .inr (.inl ⟨_,h⟩)
 |dT xs=>obtain ⟨vs,h,_⟩:=q;exact .inr (.inr ⟨_,h⟩)
theorem a7a{α:Type}{l:List α}(nd:l.Nodup){i j:Nat}{a:α}(h1:l[i]? = some a)(h2:l[j]? = some a):i=j:=by
 obtain ⟨l1,e1⟩:=am.mp h1;obtain ⟨l2,e2⟩:=am.mp h2
 rcases Nat.lt_trichotomy i j with l|l|l
 .exact absurd (e1.trans e2.symm) (cP.mp nd i j l1 l2 l)
 .exact l
 .exact absurd (e2.trans e1.symm) (cP.mp nd j i l2 l1 l)
theorem avl(g:Gr U H U' H')(f:FrzOf L H' H2)(ab:agh H' L)(hL:∀a∈L,H a=none)(hm:∀a∈m,H a=none):Gr U H (U++m) H2:=by
 refine ⟨⟨m,rfl,hm⟩,λa vs e=>f.still ab (g.tup a vs e) True.intro,λa o u e=>f.still ab (g.frz a o u e) True.intro,λa u e hn=>?_,λa u e=>?_⟩
 .rw [(f a).1 λz=>by rw [hL a z] at e;cases e]
  exact g.oth a u e hn
 .obtain ⟨u',e'⟩:=g.kp a u e;rw [(f a).1 λz=>by rw [hL a z] at e;cases e]
  exact ⟨u',e'⟩
theorem aj1{d d':D}{v:V}{g':Hd}(g:Gr U H U' H')(rb:Rep K U' H' v d)(hr:HRep K U' H' h1)(e:a9j U.length (.ok d h1)=.ok d' g') :
  ∃L,agh H' L/\∀H2,FrzOf L H' H2->Gr U H U H2/\Rep K U H2 v d'/\HRep K U H2 g':=by
 obtain ⟨m,rfl,hm⟩:=g.pre;have tk:(U++m).take U.length=U:=by simp
 have ab:agh H' m:=aj0 hr m λa ha=>aR _ ha;have hL:∀(i:Nat) a,(U++m)[i]? = some a->U.length<=i->a∈m:=λi a e hi=>by
  rw [aB hi] at e;exact bv e
 refine ⟨m,ab,λH2 f=>?_⟩;unfold a9j at e;simp only at e
 split at e
 .rename_i dd gg e1 e2;cases e
  refine ⟨by simpa using avl g f ab hm (m:=[]) (by simp),by have:=a9k hr hL f ab FU rb e1;rwa [tk] at this,?_⟩
  obtain ⟨l,gt⟩:=a2o e2;have hl:=hr.len;have ln:U.length<=h1.length:=by rw [<-hl];simp
  refine ⟨(bQ.mp hr.nd).1,by rw [<-l,bg];omega,λi a o q1 q2=>?_⟩
  obtain ⟨x,hx,fx⟩:=gt i o q2;have hi:i<U.length:=(am.mp q1).1;rw [fK,aE hi] at hx;have q3:(U++m)[i]? = some a:=by rw [aP hi];exact q1
  have na:a∉m:=λz=>(bQ.mp hr.nd).2.2 a (bv q1) a z rfl;have:=arc hr hL f ab na (hr.obj i a x q3 hx) fx
  rwa [tk] at this
 .cases e
theorem amq(g:Gr U H U' H')(rb:Rep K U' H' v d)(hr:HRep K U' H' h1)(e:ath U.length (.ok d h1)=.ok d' g') :
  ∃b,H b=none/\Gr U H (U++[b]) H'/\Rep K (U++[b]) H' v d'/\HRep K (U++[b]) H' g':=by
 obtain ⟨m,rfl,hm⟩:=g.pre;have tk:(U++m).take U.length=U:=by simp
 have up:∀b,Gw U H' (U++[b]) H':=λb=>⟨⟨[b],rfl⟩,λ_ _ h=>h,λ_ _ _ h=>h⟩
 cases rb with
 |@ref b i hb =>
  unfold ath at e;simp only at e
  split at e
  .rename_i ob ho
   split at e
   .rename_i hc;obtain ⟨hi,c1,c2⟩:=hc;cases e
    have hb':=hb;rw [aB hi] at hb';have bm:b∈m:=bv hb';obtain ⟨nd1,nd2,nd3⟩:=bQ.mp hr.nd;have hl:=hr.len;have ln:U.length<=h1.length:=by rw [<-hl];simp
    have lt:(h1.take U.length).length=U.length:=by rw [bg];omega
    refine ⟨b,hm b bm,⟨⟨[b],rfl,by simpa using hm b bm⟩,g.tup,g.frz,g.oth,g.kp⟩,.ref (by simp),?_⟩
    refine ⟨bQ.mpr ⟨nd1,by simp,λa ha c hc z=>nd3 a ha c (by rw [aD.mp hc];exact bm) z⟩,by simp [lt],λj a o q1 q2=>?_⟩
    by_cases hj:j<U.length
    .rw [aP hj] at q1;rw [aP (by omega)] at q2
     have q2':=q2;rw [fK,aE hj] at q2';have:=(hr.obj j a o (by rw [aP hj];exact q1) q2').cut (c2 o (bv q2))
     rw [tk] at this;exact this.monoW (up b) rfl
    .have hj2:j<(U++[b]).length:=(am.mp q1).1;have:j=U.length:=by simp at hj2;omega
     subst this;rw [aB (aA _)] at q1;rw [aB (by omega),lt] at q2
     simp at q1 q2
     subst q1 q2;have:=(hr.obj i b ob hb ho).cut c1;rw [tk] at this;exact this.monoW (up b) rfl
   .cases e
  .cases e
 |_=>cases e
end
def sZ(f:SE):SE:=λτ h=>a9j h.length (f τ h)
abbrev b1m(Q:VK):VK:=λv H1=>∃L,agh H1 L/\∀H2,FrzOf L H1 H2->Q v H2
theorem axx(q:lift K E (yx K) (sZ fa) Z H Q):lift K E (yx K) fa Z H (b1m Q):=by
 obtain ⟨U,τ,h,S,Rh,o⟩:=q;refine ⟨U,τ,h,S,Rh,?_⟩;unfold sZ at o;rw [<-Rh.len] at o
 cases hf:fa τ h with
 |ok d h1 =>
  rw [hf] at o
  intro U' H' v g r hr
  cases hz:a9j U.length (.ok d h1) with
  |ok d' g' =>
   rw [hz] at o;obtain ⟨L,ab,k⟩:=aj1 g r hr hz;refine ⟨L,ab,λH2 f=>?_⟩;obtain ⟨k1,k2,k3⟩:=k H2 f;exact o U H2 v k1 k2 k3
  |ex c hx=>unfold a9j at hz;simp only at hz;split at hz<;>cases hz
  |no=>rw [hz] at o;exact o.elim
 |ex c h1=>rw [hf] at o;exact o.elim
 |no=>rw [hf] at o;exact o.elim
theorem yu(ha:ME X E e fa):ME X E e (sZ fa):=PE.weak (aiz ha) λZ H Q q=>axx q
def refOf:D->Option Nat
 |.ref i=>some i
 |_=>none
def a1v(ds:List D):List Nat:=ds.filterMap refOf
noncomputable def a0q:Nat->List D->List D
 |_,[]=>[]
 |k,d::ds=>match d with
  |.ref _=>.ref k::a0q (k+1) ds
  |d=>d::a0q k ds
def xm:Hd->List Nat->List O->Hd
 |h,i::is,o::os=>xm (h.set i o) is os
 |h,_,_=>h
def isRef(d:D):Prop:=∃i,d=.ref i
open Classical in
def ati(m:Bool)(F:SF)(ds:List D)(h:Hd):R D:=match a03 (λi=>h[i]?) (a1v ds) with
 |none=>.no
 | some os=>if (a1v ds).Nodup/\(∀d∈ds,clo 0 d\/isRef d)/\(∀o∈os,ux 0 o) then
   (match (if m then ath os.length (F (a0q 0 ds) os) else a9j os.length (F (a0q 0 ds) os)) with
   | .ok d h1=>if ∀o∈h1,ux 0 o then
     (if m then .ok (.ref h.length) (xm h (a1v ds) h1++h1.drop os.length)
      else if clo 0 d then .ok d (xm h (a1v ds) h1) else .no) else .no
   |_=>.no)
  else .no
def kj(m:Bool)(n:Nat)(F:SF):SF:=λds h=>if ds.length=n then ati m F ds h else .no
section
variable{K:PySem.W.Frag}{U U':List Addr}{H H' H2:Hp}{h h1:Hd}{n:Nat}
theorem ap7(κ:List Addr):Gw [] H κ H:=⟨⟨κ,rfl⟩,λ_ _ h=>h,λ_ _ _ h=>h⟩
theorem Rep.any(r:Rep K U H v d)(c:MI.clo 0 d)(κ:List Addr):Rep K κ H v d:=by
 have:=r.cut c
 rw [fk] at this;exact this.monoW (ap7 κ)
theorem ORep.any(r:ORep K U H a o)(c:ux 0 o)(κ:List Addr):ORep K κ H a o:=by
 have:=r.cut c
 rw [fk] at this;exact this.monoW (ap7 κ) rfl
theorem abi{α:Type}(l:List α):∀{is:List Nat},(∀i∈is,i<l.length)->∃ys,a03 (λi=>l[i]?) is=some ys
 |[],_=>⟨[],rfl⟩
 |i::is,hi=>by
  obtain ⟨ys,e⟩:=abi l (is:=is) λj hj=>hi j (ay _ hj);have:=hi i aI;exact ⟨l[i]::ys,by unfold a03;rw [e,ag this]⟩
theorem a5b:∀{ds:List D} {vs:List V} {pre κ:List Addr},Reps K U H vs ds->(∀d∈ds,clo 0 d\/isRef d)->a03 (λi=>U[i]?) (a1v ds)=some κ->Reps K (pre++κ) H vs (a0q pre.length ds)
 |[],_,_,_,.nil,_,_=>.nil
 |d::ds,_,pre,κ,.cons r rs,hc,e=>by
  have hc':∀d∈ds,clo 0 d\/isRef d:=λx hx=>hc x (ay _ hx)
  by_cases hd:isRef d
  .obtain ⟨i,rfl⟩:=hd;have e':a03 (λi=>U[i]?) (i::a1v ds)=some κ:=e;unfold a03 at e'
   split at e'
   .rename_i a κ' h1 h2
    cases e'
    cases r with
    |ref ha =>
     rw [ha] at h1;cases h1
     have:=a5b (pre:=pre++[a]) rs hc' h2
     simp only [cM,List.singleton_append,av,aK] at this;refine .cons (.ref ?_) this;rw [aB (aA _)];simp
   .cases e'
  .have c:=(hc d aI).resolve_right hd;have e1:a1v (d::ds)=a1v ds:=by
    unfold a1v
    cases d<;>first|rfl|exact absurd ⟨_,rfl⟩ hd
   have e2:a0q pre.length (d::ds)=d::a0q pre.length ds:=by
    cases d<;>first|rfl|exact absurd ⟨_,rfl⟩ hd
   rw [e1] at e;rw [e2];exact .cons (r.any c _) (a5b rs hc' e)
theorem a0r:∀{is:List Nat} {os:List O} {h:Hd},(xm h is os).length=h.length
 |[],_,_=>by simp [xm]
 |_::_,[],_=>by simp [xm]
 |i::is,o::os,h=>by rw [xm,a0r,eK]
theorem a5c:∀{is:List Nat} {os:List O} {h:Hd},i∉is->(xm h is os)[i]? = h[i]?
 |[],_,_,_=>by simp [xm]
 |_::_,[],_,_=>by simp [xm]
 |j::is,o::os,h,n=>by
  rw [xm,a5c λz=>n (ay _ z),dv λz=>n (by rw [z];exact aI)]
theorem abj:∀{is:List Nat} {os:List O} {h:Hd} {j:Nat},is.Nodup->is[j]? = some i->os[j]? = some o->i<h.length->(xm h is os)[i]? = some o
 |[],_,_,_,_,e,_,_=>by simp at e
 |_::_,[],_,_,_,_,e,_=>by simp at e
 |k::is,o'::os,h,j,nd,e1,e2,hl=>by
  cases j with
  |zero =>
   simp at e1 e2
   subst e1 e2;rw [xm,a5c (eA.mp nd).1,cD hl]
  |succ j =>
   rw [xm];exact abj (j:=j) (eA.mp nd).2 (by simpa using e1) (by simpa using e2) (by simpa using hl)
theorem abk{α:Type}{l:List α}(nl:l.Nodup){is:List Nat}{ys:List α}(e:a03 (λi=>l[i]?) is=some ys)(ni:is.Nodup):ys.Nodup:=by
 obtain ⟨le,g⟩:=a2o e;refine cP.mpr λi j hi hj lt z=>?_;obtain ⟨x,h1,h2⟩:=g i _ (ag hi);obtain ⟨y,h3,h4⟩:=g j _ (ag hj);rw [<-z] at h4;have:=a7a nl h2 h4;subst this;have:=a7a ni h1 h3;omega
theorem aet{is:List Nat}{κ m:List Addr}{g:Hd}(hr:HRep K U H h)(e1:a03 (λi=>U[i]?) is=some κ)(nd:is.Nodup)(gr:Gr κ H (κ++m) H2)(hg:HRep K (κ++m) H2 g)(cg:∀o∈g,ux 0 o)(hm:m.length<=1) :
  Gr U H (U++m) H2/\HRep K (U++m) H2 (xm h is g++g.drop κ.length):=by
 obtain ⟨l1,g1⟩:=a2o e1;have mn:∀a∈m,H a=none:=by
  obtain ⟨m',e,hm'⟩:=gr.pre;rw [List.append_cancel_left e];exact hm'
 have sub:∀a∈κ,a∈U:=λa ha=>by
  obtain ⟨j,hj⟩:=cO ha;obtain ⟨i,_,q⟩:=g1 j a hj;exact bv q
 have some_of:∀a∈U,∃u,H a=some u:=λa ha=>by
  obtain ⟨i,hi⟩:=cO ha;obtain ⟨o,_,q⟩:=hr.at hi;obtain ⟨u,q,_⟩:=q.some;exact ⟨u,q⟩
 have G:Gr U H (U++m) H2:=⟨⟨m,rfl,mn⟩,gr.tup,gr.frz,λa u e n=>gr.oth a u e λz=>n (sub a z),gr.kp⟩;have lg:=hg.len;rw [av] at lg;refine ⟨G,?_,?_,λj a o q1 q2=>?_⟩
 .refine bQ.mpr ⟨hr.nd,(bQ.mp hg.nd).2.1,λa ha b hb z=>?_⟩;obtain ⟨u,q⟩:=some_of a ha;rw [z,mn b hb] at q;cases q
 .rw [av,av,a0r,bN,hr.len];omega
 .by_cases hj:j<U.length
  .rw [aP hj] at q1;rw [aP (by rw [a0r,<-hr.len];exact hj)] at q2
   by_cases hp:j∈is
   .obtain ⟨k,hk⟩:=cO hp;have hkl:k<κ.length:=by rw [<-l1];exact (am.mp hk).1
    obtain ⟨i,h3,h4⟩:=g1 k _ (ag hkl);rw [hk] at h3;cases h3
    rw [q1] at h4;have hkg:k<g.length:=by omega
    have e5:=abj (h:=h) nd hk (ag hkg) (by rw [<-hr.len];exact hj)
    rw [e5] at q2;cases q2
    have ea:(κ++m)[k]? = some a:=by rw [aP hkl,ag hkl];exact h4.symm
    exact (hg.obj k a _ ea (ag hkg)).any (cg _ (bZ hkg)) _
   .rw [a5c hp] at q2;have r:=hr.obj j a o q1 q2;obtain ⟨u,hu,_⟩:=r.some;have na:a∉κ:=λz=>by
     obtain ⟨k,hk⟩:=cO z;obtain ⟨i,h3,h4⟩:=g1 k a hk;have:=a7a hr.nd q1 h4;subst this;exact hp (bv h3)
    exact r.mono G (by rw [hu];exact gr.oth a u hu na)
  .have q1':=q1;rw [aB (by omega)] at q1
   rw [aB (by rw [a0r,<-hr.len];omega),a0r,<-hr.len,List.getElem?_drop] at q2
   have ea:(κ++m)[κ.length+(j-U.length)]? = some a:=by rw [aB (by omega)];simpa using q1
   exact (hg.obj _ a o ea q2).any (cg o (bv q2)) _
theorem aj2{m:Bool}{F:SF}{vs:List V}{ds:List D}{Q:VK}(r:Reps K U H vs ds)(hr:HRep K U H h)(o:out K X0 (yx K) U H (kj m n F ds h) Q)(E:XK) :
  qd K n F vs H (λv H1=>∃L,agh H1 L/\∀H2,FrzOf L H1 H2->Q v H2) E:=by
 unfold kj at o
 split at o
 .rename_i hl;refine ⟨by rw [r.len];exact hl,?_⟩
  unfold ati at o
  split at o
  .exact o.elim
  .rename_i os hos
   split at o
   .rename_i hc;obtain ⟨nd,hd,hcl⟩:=hc;obtain ⟨l0,g0⟩:=a2o hos;obtain ⟨κ,e1⟩:=abi U (is:=a1v ds) λi hi=>by
     obtain ⟨j,hj⟩:=cO hi;have hjl:j<os.length:=by rw [<-l0];exact (am.mp hj).1
     obtain ⟨x,h3,h4⟩:=g0 j _ (ag hjl);rw [hj] at h3;cases h3
     rw [hr.len];exact (am.mp h4).1
    obtain ⟨l1,g1⟩:=a2o e1;have lk:κ.length=os.length:=by omega
    have R0:Reps K κ H vs (a0q 0 ds):=by simpa using a5b (pre:=[]) r hd e1
    have H0:HRep K κ H os:=by
     refine ⟨abk hr.nd e1 nd,lk,λj a ob q1 q2=>?_⟩;obtain ⟨i,h3,h4⟩:=g1 j a q1;obtain ⟨i',h5,h6⟩:=g0 j ob q2;rw [h3] at h5;cases h5
     exact (hr.obj i a ob h4 h6).any (hcl ob (bv q2)) _
    refine ⟨κ,a0q 0 ds,os,R0,H0,?_⟩
    cases hF:F (a0q 0 ds) os with
    |no=>rw [hF] at o;cases m<;>exact o.elim
    |ex c hx=>rw [hF] at o;cases m<;>exact o.elim
    |ok d h1 =>
     rw [hF] at o
     intro U' H' v g rb hr1
     rw [<-lk] at o
     cases m with
     |false =>
      simp only [bi,dC] at o
      cases hz:a9j κ.length (.ok d h1) with
      |ok d' g' =>
       rw [hz] at o;simp only at o;obtain ⟨L,ab,k⟩:=aj1 g rb hr1 hz;refine ⟨L,ab,λH2 f=>?_⟩;obtain ⟨k1,k2,k3⟩:=k H2 f
       split at o
       .rename_i cg
        split at o
        .rename_i cd;have q:=aet (m:=[]) hr e1 nd (by simpa using k1) (by simpa using k3) cg (by simp)
         have lg:=k3.len;have dr:g'.drop κ.length=[]:=bJ (by omega)
         rw [dr,bL,bL] at q;exact o U H2 v q.1 (k2.any cd _) q.2
        .exact o.elim
       .exact o.elim
      |ex c hx=>rw [hz] at o;exact o.elim
      |no=>rw [hz] at o;exact o.elim
     |true =>
      simp only [db] at o
      cases hz:ath κ.length (.ok d h1) with
      |ok d' g' =>
       rw [hz] at o;simp only at o;obtain ⟨b,hb,k1,k2,k3⟩:=amq g rb hr1 hz;refine ⟨[],λa ha=>(by simp at ha),λH2 f=>?_⟩
       have e2:H2=H':=by funext a;exact (f a).1 (by simp)
       subst e2
       split at o
       .rename_i cg;have q:=aet (m:=[b]) hr e1 nd k1 k3 cg (by simp)
        refine o (U++[b]) H2 v q.1 ?_ q.2;have hd':d'=.ref κ.length:=by
         unfold ath at hz
         split at hz
         .rename_i i h2 hh
          injection hh with z1 z2
          split at hz
          .split at hz
           .injection hz with z3 z4;exact z3.symm
           .cases hz
          .cases hz
         .cases hz
        subst hd'
        cases k2 with
        |ref hk =>
         rw [aB (aA _)] at hk;simp at hk;subst hk;exact .ref (by rw [<-hr.len];simp)
       .exact o.elim
      |ex c hx=>rw [hz] at o;exact o.elim
      |no=>rw [hz] at o;exact o.elim
   .exact o.elim
 .exact o.elim
end
theorem aeu(m:Bool){X:Cx}(G:Dn X.prog X.w X.K X.mg X.base k x ps (qd X.K n F) f fd)(hr:Room k X.A)(hg:Gl X x)(ha:MA X X0 (e::es) ka)
  (hdb:(x == ("__debug__" : Str))=false:=by decide) (he:starEach (e::es) X.env=(false,eval e X.env)::starEach es X.env:=by rfl) (hpl:(backTo pos (starEach es X.env)).any (·.1)=false:=by rfl):ME X X0 (.Call (.Name x p) (e::es) [] pos) (sA (kj m n F) ka):=by
 refine PE.weak (aiz (aqe G.ok hr hg G.m G.kp G.b .nil aus ha hdb he hpl)) ?_
 rintro Z H Q ⟨U,τ,h,S,Rh,o⟩
 refine ⟨U,τ,h,S,Rh,dh o λds h1 U1 H1 vs g1 r1 hr1 o1=>?_⟩;rw [bL];exact aj2 r1 hr1 o1 _
theorem aj3(m:Bool){X:Cx}(G:Dn X.prog X.w X.K X.mg X.base k x ps (qd X.K n F) f fd)(hr:Room k X.A)(hg:Gl X x)(hdb:(x == ("__debug__" : Str))=false:=by decide) :
  ME X X0 (.Call (.Name x p) [] [] pos) (sA (kj m n F) bz):=by
 refine PE.weak (aiz (am6 G.ok hr hg G.m G.kp G.b .nil aus hdb)) ?_
 rintro Z H Q ⟨U,τ,h,S,Rh,o⟩
 exact aj2 (vs:=[]) .nil Rh o E0
def sNo:SE:=λ_ _=>.no
def atj:SS:=λ_ _=>.no
section
variable{X:Cx}{E:XD}
theorem az4:ME X E e sNo:=λ_ _ _ _ _ _ ⟨_,_,_,_,_,o⟩=>o.elim
theorem az5:MS X E st atj:=λ_ _ _ _ _ _ ⟨_,_,_,_,_,o⟩=>o.elim
theorem aj4:MSs X E st atj:=λ_ _ _ _ _ _ ⟨_,_,_,_,_,o⟩=>o.elim
end
theorem aj5(h:PS X st t):PS X st (λD Z H=>t {D with nx:=λZ' H1=>∃L,agh H1 L/\∀H2,FrzOf L H1 H2->D.nx Z' H2} Z H):=λpins s Z H D I q =>
 thn (h pins s Z H _ I q) λf s' k=>by
  cases f with
  |next =>
   obtain ⟨Z',H1,I1,L,ab,k⟩:=k;obtain ⟨H2,f,I2⟩:=Inv.frz I1 ab;exact ⟨Z',H2,I2,k H2 f⟩
  |brk=>exact k
  |cont=>exact k
  |ret u=>exact k
theorem aev(q:a9c K E (n6 i f) N Z H):lift K E (yx K) f Z H (λv H1=>N.nx (Z.set i (some v)) H1):=by
 obtain ⟨U,τ,h,S,Rh,o⟩:=q;exact ⟨U,τ,h,S,Rh,a1y o λd h1 U1 H1 v g1 r1 hr1 o1=>o1 U1 H1 _ (.refl _ _) ((S.mono g1).set r1 i) hr1⟩
theorem ad2(ht:ahj K n g t)(q:lift K E (yx K) (m5 fi t fe ix) Z H Q):ab4 (lift K E (av4 K) fi) (uo n ix) g (lift K E (yx K) fe) Z H Q:=by
 obtain ⟨U,τ,h,Sr,Rh,o⟩:=q;refine ⟨U,τ,h,Sr,Rh,dh o λit h1 U1 H1 J g1 r1 hr1 o1=>?_⟩
 by_cases hl:it.xs.length<=LINE
 .rw [aE hl] at o1;exact aem r1 ht (a6b (Sr.mono g1) ix) hr1 hl o1
 .rw [aS hl] at o1;exact o1.elim
theorem amr(ht:ahj K n g t)(q:lift K E (yx K) (a8p fi t fc fe ix) Z H Q):a3k (lift K E (av4 K) fi) (uo n ix) g (lift K E aqr fc) (lift K E (yx K) fe) Z H Q:=by
 obtain ⟨U,τ,h,Sr,Rh,o⟩:=q;refine ⟨U,τ,h,Sr,Rh,dh o λit h1 U1 H1 J g1 r1 hr1 o1=>?_⟩
 by_cases hl:it.xs.length<=LINE
 .rw [aE hl] at o1;exact aih r1 ht (a6b (Sr.mono g1) ix) hr1 hl o1
 .rw [aS hl] at o1;exact o1.elim
section
variable{X:Cx}{E:XD}{elt tg iter cnd:Expr}{scope:Scope}{pos spos pos':Pos}{cl:List (Str×Addr)}{ts fr:List Str}{ix:List Nat}{fi:SI}{g:TG}{t:D->Option Sd}{fe:SE}{fc:ST}{i:Nat}{x:Str}
theorem ard(hN:X.N.Nodup)(hi':X.N[i]? = some x)(hx:Loc X.env.scope x)(hc:X.calm=true)(S:CSc X scope cl ts fr ix)(hi:MI X E tg iter fi)(hg:∀C fp s H,PG (cxC X (ts++fr) scope cl C fp s H) tg g)(ht:ahj X.K ts.length g t)(he:∀C fp s H,ME (cxC X (ts++fr) scope cl C fp s H) E elt fe)
  (hs:∀x,foldedSetIterable iter X.env x=pure x:=by intro _;rfl) (hsw:swapsWith (.ListComp elt [⟨tg,iter,[],0⟩] scope pos) (some (.Name x pos')) spos.line X.env=pure true:=by rfl) (hf:X.fn x=true\/X.env.scope.names.lookup x=some .local:=by first|exact .inl rfl|exact .inr rfl|assumption) :
  MS X E (.Assign [.Name x pos'] (.ListComp elt [⟨tg,iter,[],0⟩] scope pos) spos) (n6 i (m5 fi t fe ix)) :=
 PS.weak (aec (te:=lift X.K E (yx X.K) fe) hN hi' hx hc S hi hg he hs hsw hf) λN Z H q=>ad2 ht (aev q)
theorem xn(hN:X.N.Nodup)(hi':X.N[i]? = some x)(hx:Loc X.env.scope x)(hc:X.calm=true)(S:CSc X scope cl ts fr ix)(hi:MI X E tg iter fi)(hg:∀C fp s H,PG (cxC X (ts++fr) scope cl C fp s H) tg g)(ht:ahj X.K ts.length g t)(he:∀C fp s H,ME (cxC X (ts++fr) scope cl C fp s H) E elt fe)
  (hs:∀x,foldedSetIterable iter X.env x=pure x:=by intro _;rfl) (hsw:swapsWith (.ListComp elt [⟨tg,iter,[],0⟩] scope pos) (some (.Name x pos')) spos.line X.env=pure true:=by rfl) (hf:X.fn x=true\/X.env.scope.names.lookup x=some .local:=by first|exact .inl rfl|exact .inr rfl|assumption) :
  MS X E (.Assign [.Name x pos'] (.ListComp elt [⟨tg,iter,[],0⟩] scope pos) spos) (n6 i (sZ (m5 fi t fe ix))) :=
 PS.weak (aj5 (aec (te:=lift X.K E (yx X.K) fe) hN hi' hx hc S hi hg he hs hsw hf)) λN Z H q=>ad2 ht (axx (aev q))
theorem ams(hN:X.N.Nodup)(hi':X.N[i]? = some x)(hx:Loc X.env.scope x)(hc:X.calm=true)(S:CSc X scope cl ts fr ix)(hi:MI X E tg iter fi)(hg:∀C fp s H,PG (cxC X (ts++fr) scope cl C fp s H) tg g)(ht:ahj X.K ts.length g t)(he:∀C fp s H,ME (cxC X (ts++fr) scope cl C fp s H) E elt fe)
  (hq:∀C fp s H,MT (cxC X (ts++fr) scope cl C fp s H) E cnd fc)
  (hs:∀x,foldedSetIterable iter X.env x=pure x:=by intro _;rfl) (hsw:swapsWith (.ListComp elt [⟨tg,iter,[cnd],0⟩] scope pos) (some (.Name x pos')) spos.line X.env=pure true:=by rfl) (hf:X.fn x=true\/X.env.scope.names.lookup x=some .local:=by first|exact .inl rfl|exact .inr rfl|assumption) :
  MS X E (.Assign [.Name x pos'] (.ListComp elt [⟨tg,iter,[cnd],0⟩] scope pos) spos) (n6 i (sZ (a8p fi t fc fe ix))) :=
 PS.weak (aj5 (agc (te:=lift X.K E (yx X.K) fe) (tc:=lift X.K E aqr fc) hN hi' hx hc S hi hg he hq hs hsw hf)) λN Z H q=>amr ht (axx (aev q))
end
theorem a0s(Fu:Fun K x qual st f fd)(S:FnScope N ps (dj st))
  (hb:∀(cdv:Value) (A:Around) (outer:List Env) (s:Shared) (H:Hp) (E:XK),Room k (A.deeper (PyProof.Rows.envOfC qual (dj st) s.heap.objs.size f cdv))->MSs (alo CX0 P w K mg base N qual (dj st) f cdv A outer s H E).nox X0 (yw st) b) :
  FnOk P w K mg base CX0 (k+1) f fd ps (qd K ps.length (qb b N.length)):=av7 Fu S hb λds h _ _ _=>Rf.same rfl
end MI
namespace MI
open L2 HT
theorem agi{s:Shared}(ht:PyProof.Rows.IsTup s.heap t items)(hs:s.heap.IsSliceOf sl vl vu .none)(pl:IsPart vl lo)(pu:IsPart vu hi)
  (hw:HT.sIx items.size 0 lo=0/\HT.sIx items.size items.size hi=items.size) (h:Q (.ref t) s):wpAny (model prog w) A (getItem (.ref t) (.ref sl)) Q E s:=by
 obtain ⟨os,f1,f2,f3⟩:=id hs;have ty:s.TypeIs (.ref sl) "slice":=⟨os,f1,f2⟩;have tt:s.TypeIs (.ref t) "tuple":=ht.typeIs;rw [getItem]
 try apply bR
 first|(apply af;apply ar)|skip
 apply af;apply wpAny_sequenceKey tt (by decide)
 apply af
 apply cK (name:=Str.ofString "__getitem__") tt c4
 apply bX c4 tt PyProof.Rows.entry_tuple_getitem _ (PyProof.Rows.args_tuple_getitem _ _)
 change wpAny (model prog w) A.in1 (Builtin.Tuple.tupleItemsOf (.ref t)>>=_) _ _ s
 apply af;apply PyProof.Rows.tupleItemsOf_ ht
 apply af;apply gy ty
 rw [aE (by decide)]
 apply af;apply HT.a1q hs pl pu
 rw [hw.1,hw.2];dsimp only;rw [aE (by simp)]
 apply af
 rw [Builtin.Tuple.tupleIsExact]
 apply af;apply gy tt
 apply ar
 rw [aE (by decide)]
 apply af;apply eU
 apply ar
 exact ⟨_,rfl,ar h⟩
def b0a(K:PySem.W.Frag):V->Option Int->Option Int->Hp->VK->Prop:=λx lo hi H Q=>∃a xs,x=.ref a/\SqT K H a xs/\whole xs.length lo hi/\Q (.ref a) H
theorem amt:SlR X (b0a X.K):=by
 intro pins s Z H x v vl vu lo hi sl Q I rx hs pl pu h
 obtain ⟨a,xs,rfl,hx,hw,q⟩:=h;cases rx
 obtain ⟨its,r,ht,hz⟩:=I.tuple hx;have hlen:its.toArray.size=xs.length:=by rw [aL];exact r.length.symm
 exact ⟨"tuple",_,c4.lookup,ht.typeIs,agi ht hs pl pu (by rw [hlen];exact hw) ⟨.ref a,H,I,rfl,q⟩⟩
noncomputable def abl(d:D)(lo hi:Option Int)(h:Hd):R D:=match d with
 |.tup xs=>if whole xs.length lo hi then .ok (.tup xs) h else .ok (.tup (a4v xs lo hi)) h
 |d=>gSl d lo hi h
noncomputable def a2a(f:SE)(l u:SO):SE:=λτ h=>(f τ h).bind λd h1=>(l τ h1).bind λlo h2=>(u τ h2).bind λhi h3=>abl d lo hi h3
theorem arf(rx:Rep K U H x d)(hr:HRep K U H h)(o:out K E (yx K) U H (abl d lo hi h) Q):(ayv x lo hi H Q\/ayr K x lo hi H Q\/ayt K x lo hi H Q)\/b0a K x lo hi H Q:=by
 cases rx with
 |@tup p vs xs hp r =>
  by_cases hc:whole xs.length lo hi
  .simp only [abl,aE hc] at o;exact .inr ⟨p,vs,rfl,SqT.of hp,by rw [r.len];exact hc,ans o (.tup hp r) hr⟩
  .simp only [abl,aS hc] at o;exact .inl (.inr (.inl ⟨p,vs,rfl,SqT.of hp,by rw [r.len];exact hc,a3p (a4c r lo hi) hr o⟩))
 |non=>exact o.elim
 |bl _=>exact o.elim
 |int _=>exact o.elim
 |ty _=>exact o.elim
 |str z=>exact .inl (aeq (.str z) hr o)
 |rol a b=>exact .inl (aeq (.rol a b) hr o)
 |scr a b=>exact .inl (aeq (.scr a b) hr o)
 |rod a b c=>exact o.elim
 |rdT a b c=>exact o.elim
 |exc a b c=>exact o.elim
 |ref a=>exact .inl (aeq (.ref a) hr o)
theorem rm(he:ME X E e fa)(hl:MO X E lo l)(hu:MO X E hi u):ME X E (.Subscript e (.Slice lo hi none p2) pos) (a2a fa l u):=by
 refine PE.weak (am8 ((auw.or (aun.or aql)).or amt) he hl hu) ?_
 rintro Z H Q ⟨U,τ,h,S,Rh,o⟩
 refine ⟨U,τ,h,S,Rh,dh o λd h1 U1 H1 v g1 r1 hr1 o1=>?_⟩;refine ⟨U1,τ,h1,S.mono g1,hr1,dh o1 λlo h2 U2 H2 lv g2 r2 hr2 o2=>?_⟩;refine ⟨U2,τ,h2,(S.mono g1).mono g2,hr2,dh o2 λhi h3 U3 H3 hv g3 r3 hr3 o3=>?_⟩
 cases r2;cases r3
 exact arf ((r1.mono g2).mono g3) hr3 o3
end MI
namespace TPM
open PySem.W L2 HT MI
end TPM
namespace MI
open L2 TPM
end MI
namespace L2
open PyProof.Rows
end L2
namespace MI
open L2
noncomputable def avm(x y:D)(h:Hd):R D:=match x,y with
 |.ref p,.int i=>(match h[p]? with|some (.lst xs)=>(match atI xs i with|some d=>.ok d h|none=>.no)|_=>.no)
 |_,_=>.no
noncomputable def amu(g:D->D->Hd->R D)(fo fi fe:SE):SS:=λτ h=>(fo τ h).fl λo h1=>(fi τ h1).fl λi h2=>(avm o i h2).fl λx h3=>(fe τ h3).fl λy h4=>(g x y h4).fl λz h5=>match put o i z h5 with|some h6=>.nx τ h6|none=>.no
end MI
namespace TPM
open PySem.W L2 HT MI
theorem agj(t b:Addr)(items2:Array Value)(n n2:Nat)(dd dd2:Option Addr)(sl sl2:Array (Option Value)) :
  Meets (Builtin.«tuple.__add__» ⟨[.ref t,.ref b],[]⟩) (λ_ R s=>s.heap.get? t=some {cls:=.type "tuple",dict:=dd,data:=.seq #[] n,slots:=sl}/\s.heap.get? b=some {cls:=.type "tuple",dict:=dd2,data:=.seq items2 n2,slots:=sl2}/\R (.ok (.ret (.ref b))) s):=by
 refine .of_wp λprog w A R s h=>?_;obtain ⟨hp,g,d,tk,os⟩:=s;obtain ⟨hl,hb,h⟩:=h
 wp_walk
 refine dl sub_tuple_self ?_
 wp_walk
 exact ⟨_,rfl,h⟩
noncomputable def avn(K:PySem.W.Frag):R2:=λx y H Q=>∃a b ys,x=.ref a/\y=.ref b/\SqT K H a []/\SqT K H b ys/\Q (.ref b) H
theorem arh:OpR X (binaryOp .Add) (avn X.K):=by
 intro pins s Z H x y v u Q I rx ry h
 obtain ⟨a,b,ys,rfl,rfl,ha,hb,q⟩:=h;cases rx
 cases ry
 obtain ⟨its,r1,p1,_⟩:=I.tuple ha;obtain ⟨its2,r2,p2,_⟩:=I.tuple hb;cases r1
 obtain ⟨⟨cls,dd,data,sl⟩,ho,hc,n,hd⟩:=id p1;obtain ⟨⟨cls2,dd2,data2,sl2⟩,ho2,hc2,n2,hd2⟩:=id p2;simp only at hc hd hc2 hd2;subst hc hd hc2 hd2;exact concat_meets ⟨_,ho,rfl⟩ ⟨_,ho2,rfl⟩ iC seq_tuple_add F.slot_tuple_add F.entry_tuple_add (F.args_tuple_add_2 _ _) (agj a b its2.toArray n n2 dd dd2 sl sl2) ⟨ho,ho2,⟨.ref b,H,I,rfl,q⟩⟩
end TPM
namespace MI
open L2 TPM
end MI
namespace TPM
open PySem.W L2 HT MI PyProof.Rows
theorem ap8{α β:Type}{f:α->Option β}{g:α->β}:∀{l:List α},(∀k∈l,f k=some (g k))->l.filterMap f=l.map g
 |[],_=>rfl
 |x::l,h=>by rw [cE,h x (aI ..),aT,ap8 λk hk=>h k (ay _ hk)]
end TPM
namespace MI
open L2 TPM
theorem aew:∀{vs:List V} {xs:List D} {ws:List V} {ys:List D},Reps K U H vs xs->Reps K U H ws ys->Reps K U H (vs.reverse++ws) (xs.reverse++ys)
 |_,_,_,_,.nil,r2=>r2
 |_,_,_,_,.cons r rs,r2=>by
  rw [eB,eB,cM,cM];exact aew rs (.cons r r2)
end MI
namespace L2
open PyProof.Rows
section
variable{X:Cx}
theorem Inv.lstR(I:Inv X pins Z H s)(hH:Rd H l (.lst xs)):xs.length<=sizeLine/\∃(its:List Value) (n:Nat),Vals xs its/\xs.length=its.length/\s.heap.get? l=some {cls:=.type "list",data:=.seq its.toArray n}:=by
 obtain ⟨z,its,n,r,e⟩:=hH.ok I.hok;exact ⟨z,its,n,r,r.length,e⟩
noncomputable def avo:R2:=λx y H Q=>∃l b xs zs,x=.ref l/\y=.ref b/\Rd H l (.lst xs)/\Rd H b (.lst zs)/\xs.length+zs.length<=sizeLine/\∀p,H p=none->Q (.ref p) (upd H p (.lst (xs++zs)))
theorem ari:OpR X (binaryOp .Add) avo:=λpins s Z H x y v u Q I rx ry ⟨l,b,xs,zs,ex,ey,h1,h2,hz,q⟩=>by
 subst ex ey;cases rx
 cases ry
 obtain ⟨_,as,_,va,la,ea⟩:=I.lstR h1;obtain ⟨_,bs,_,vb,lb,eb⟩:=I.lstR h2;have app:as.toArray++bs.toArray=(as++bs).toArray:=by simp
 refine PySem.P.add_list ea eb ?_ (by simp;omega)
 rw [app];exact ⟨.ref _,_,I.lnew (t':=s.toks) (va.append vb) (by simpa using hz),rfl,q _ I.fresh⟩
def avp:V->List V->Hp->VK->Prop:=λx vs H Q=>∃l b xs zs,x=.ref l/\vs=[.ref b]/\H l=some (.lst xs)/\Rd H b (.lst zs)/\xs.length+zs.length<=sizeLine/\Q .non (upd H l (.lst (xs++zs)))
theorem agk:MtM X "list.extend" avp:=λpins s Z H x vs v us Q I rx rv ⟨l,b,xs,zs,ex,ev,h1,h2,hz,q⟩=>by
 subst ex ev;cases rx
 obtain ⟨u,rfl,ru⟩:=rv.one;cases ru
 obtain ⟨_,as,n,va,la,ea⟩:=I.lstM h1;obtain ⟨_,bs,m,vb,lb,eb⟩:=I.lstR h2;have few:as.toArray.size+bs.toArray.size<=sizeLine:=by simp;omega
 have long:¬ (!as.toArray.isEmpty && Builtin.List.listTooLong (as.toArray.size+bs.toArray.size))=true:=by rw [a97 few,iQ];exact aX
 exact gM F.slot_list_extend ⟨_,ea,rfl⟩ F.entry_list_extend (F.args_list_extend_2 _ _) (AutoSeq1.list_extend_list_list_0 l as.toArray n b bs.toArray m long (by simp;omega) (by omega))
  ⟨ea,eb,.non,_,I.lset (its':=as++bs) h1 ea (by simp) (va.append vb) (by simpa using hz),rfl,q⟩
noncomputable def avq:R2:=λx y H Q=>∃l k xs,x=.ref l/\y=.int k/\Rd H l (.lst xs) /\ -(2^63)<=k/\k<2^63/\xs.length*k.toNat<=sizeLine/\∀p,H p=none->Q (.ref p) (upd H p (.lst (List.replicate k.toNat xs).flatten))
theorem arj(its:List Value)(k:Nat):List.foldl (λx1 x2=>x1++x2) #[] (List.replicate (if its.toArray.isEmpty=true then 0 else k) its.toArray)=(List.replicate k its).flatten.toArray:=by
 have g:∀m:Nat,List.foldl (λx1 x2=>x1++x2) #[] (List.replicate m its.toArray)=(List.replicate m its).flatten.toArray:=λm=>by simpa using foldl_rep its m []
 cases its with
 |nil=>simp
 |cons a r=>rw [aS (by simp),g]
theorem ark:OpR X (binaryOp .Mult) avq:=λpins s Z H x y v u Q I rx ry ⟨l,k,xs,ex,ey,h1,k1,k2,hz,q⟩=>by
 subst ex ey;cases rx
 obtain ⟨t,rfl⟩:=ry;obtain ⟨_,as,n,va,la,ea⟩:=I.lstR h1;have few:as.toArray.size*k.toNat<=sizeLine:=by rw [aL,<-la];exact hz
 have top:(sizeLine:Nat)<=(2^63-1) / 8:=by decide
 refine wpAny_binaryOp_repeat_ref (T := "list") (U := "int") (by decide) ⟨_,ea,rfl⟩ (λs'=>typeIs_int s' k t) noFill_list_mul F.fills_int_mul F.slot_int_rmul repeat_list F.slot_int_index.lookup
  (gM F.slot_int_rmul (typeIs_int s k t) F.entry_int_rmul (F.args_int_rmul_2 _ _) (int___rmul___int_list k t l as.toArray n)
   ⟨ea,rfl,⟨_,ea,rfl⟩,gM F.slot_list_mul ⟨_,ea,rfl⟩ F.entry_list_mul (F.args_list_mul_2 _ _)
    (AutoListH.list___mul___list_int_3 l as.toArray n k t (by rw [fitsIndex_both k1 k2];exact aX) (by omega) (by rw [a97 few];exact aX)) ⟨ea,?_⟩⟩)
 rw [arj];exact ⟨.ref _,_,I.lnew (t':=s.toks) (va.rep k.toNat) (by rw [len_rep,iM];exact hz),rfl,q _ I.fresh⟩
end
end L2
namespace MI
open L2 TPM
noncomputable def ur(d:D)(h:Hd):Option (List D):=match d with
 |.rol xs=>some xs
 |.ref i=>(match h[i]? with|some (.lst xs)=>some xs|_=>none)
 |_=>none
section
variable{K:PySem.W.Frag}{U:List Addr}{H:Hp}{h:Hd}
theorem zu(r:Rep K U H x d)(hr:HRep K U H h)(e:ur d h=some xs):∃a vs,x=.ref a/\Rd H a (.lst vs)/\Reps K U H vs xs:=by
 cases r with
 |@rol a vs ys hp rs=>cases e;exact ⟨a,vs,rfl,.inr hp,rs⟩
 |@ref a i hp =>
  obtain ⟨ob,e1,e2⟩:=hr.at hp;simp only [ur,e1] at e
  cases ob with
  |lst ys=>cases e;obtain ⟨vs,h3,h4⟩:=e2;exact ⟨a,vs,rfl,.inl h3,h4⟩
  |_=>cases e
 |_=>cases e
noncomputable def jo:D->D->Hd->R D
 |.int i,.int j,h=>.ok (.int (i+j)) h
 |.str x,.str y,h=>if x.length+y.length<=LINE then .ok (.str (x++y)) h else .no
 |.tup [],.tup ys,h=>.ok (.tup ys) h
 |.tup (x::xs),.tup ys,h=>if (x::xs).length+ys.length<=LINE then .ok (.tup (x::xs++ys)) h else .no
 |x,y,h=>match ur x h,ur y h with
  |some xs,some ys=>if xs.length+ys.length<=LINE then .ok (.ref h.length) (h++[.lst (xs++ys)]) else .no
  |_,_=>.no
theorem ad3(e1:ur x h=some xs)(e2:ur y h=some ys):jo x y h=if xs.length+ys.length<=LINE then .ok (.ref h.length) (h++[.lst (xs++ys)]) else .no:=by
 cases x<;>first|(cases e1;done)|(cases y<;>first|(cases e2;done)|(simp only [jo,e1,e2]))
theorem arl(x y:D)(h:Hd):(∃i j,x=.int i/\y=.int j)\/(∃i j,x=.str i/\y=.str j)\/(∃xs ys,x=.tup xs/\y=.tup ys)\/(∃xs ys,ur x h=some xs/\ur y h=some ys)\/jo x y h=.no:=by
 cases e1:ur x h with
 |some xs =>
  cases e2:ur y h with
  |some ys=>exact .inr (.inr (.inr (.inl ⟨xs,ys,rfl,rfl⟩)))
  |none =>
   refine .inr (.inr (.inr (.inr ?_)))
   cases x<;>first|(cases e1;done)|(simp only [jo,e1,e2])
 |none =>
  cases x with
  |int i=>cases y<;>first|exact .inl ⟨_,_,rfl,rfl⟩|exact .inr (.inr (.inr (.inr rfl)))
  |str i=>cases y<;>first|exact .inr (.inl ⟨_,_,rfl,rfl⟩)|exact .inr (.inr (.inr (.inr rfl)))
  |tup i=>cases y<;>first|exact .inr (.inr (.inl ⟨_,_,rfl,rfl⟩))|(cases i<;>exact .inr (.inr (.inr (.inr rfl))))
  |_=>refine .inr (.inr (.inr (.inr ?_)));simp only [jo,e1]
theorem amv:a4w K jo (λx y H Q=>(rI0 (λi j=>.int (i+j)) x y H Q\/(∃i j,x=.str i/\y=.str j/\i.length+j.length<=sizeLine/\Q (.str (i++j)) H)\/auo K x y H Q\/avo x y H Q)\/avn K x y H Q):=by
 intro E U H h x y dx dy Q rx ry hr o
 rcases arl dx dy h with ⟨i,j,rfl,rfl⟩|⟨i,j,rfl,rfl⟩|⟨xs,ys,rfl,rfl⟩|⟨xs,ys,e1,e2⟩|e
 .cases rx;cases ry
  exact .inl (.inl ⟨i,j,rfl,rfl,ans o (.int _) hr⟩)
 .cases rx;cases ry
  simp only [jo] at o
  split at o
  .rename_i hc;exact .inl (.inr (.inl ⟨i,j,rfl,rfl,ll hc,ans o (.str _) hr⟩))
  .exact o.elim
 .cases rx with
  |@tup a vs _ ha r1 =>
  cases ry with
  |@tup b us _ hb r2 =>
  cases xs with
  |nil=>cases r1;exact .inr ⟨a,b,us,rfl,rfl,SqT.of ha,SqT.of hb,ans o (.tup hb r2) hr⟩
  |cons z xs =>
   simp only [jo] at o
   split at o
   .rename_i hc;refine .inl (.inr (.inr (.inl ⟨a,b,vs,us,rfl,rfl,SqT.of ha,SqT.of hb,λz=>(by subst z;cases r1),ll (by rw [r1.len,r2.len];exact hc),λz=>?_,λ_=>?_⟩)))
    .subst z;cases r2
     rw [bL] at o;exact ans o (.tup ha r1) hr
    .exact a3p (r1.app r2) hr o
   .exact o.elim
 .rw [ad3 e1 e2] at o;obtain ⟨a,vs,rfl,h1,h2⟩:=zu rx hr e1;obtain ⟨b,us,rfl,h3,h4⟩:=zu ry hr e2
  split at o
  .rename_i hc;exact .inl (.inr (.inr (.inr ⟨a,b,vs,us,rfl,rfl,h1,h3,ll (by rw [h2.len,h4.len];exact hc),yf (h2.app h4) hr o⟩)))
  .exact o.elim
 .rw [e] at o;exact o.elim
theorem jq(ha:ME X E a fa)(hb:ME X E b fb):ME X E (.BinOp a .Add b pos) (s2 jo fa fb) :=
 age (OpR.or (auc.or (ag7.or (aqj.or ari))) arh) amv ha hb
open Classical in
def a1h(x y:D)(h:Hd):R D:=match y with
 |.int k=>(match x with
  |.int i=>if CMul i k then .ok (.int (i*k)) h else .no
  |_=>match ur x h with
   |some xs=>if (-(2^63)<=k/\k<2^63)/\xs.length*k.toNat<=LINE then .ok (.ref h.length) (h++[.lst (List.replicate k.toNat xs).flatten]) else .no
   |none=>.no)
 |_=>.no
theorem amw:a4w K a1h (λx y H Q=>rI CMul (λi j=>.int (i*j)) x y H Q\/avq x y H Q):=by
 intro E U H h x y dx dy Q rx ry hr o
 cases dy with
 |int k =>
  obtain rfl:=aio ry
  cases hx:ur dx h with
  |some xs =>
   obtain ⟨a,vs,rfl,h1,h2⟩:=zu rx hr hx;have o':out K E (yx K) U H (if (-(2^63)<=k/\k<2^63)/\xs.length*k.toNat<=LINE then .ok (.ref h.length) (h++[.lst (List.replicate k.toNat xs).flatten]) else .no) Q:=by
    cases dx<;>first|(cases hx;done)|(simp only [a1h,hx] at o;exact o)
   split at o'
   .rename_i hc;exact .inr ⟨a,k,vs,rfl,rfl,h1,hc.1.1,hc.1.2,ll (by rw [h2.len];exact hc.2),yf (h2.flat _) hr o'⟩
   .exact o'.elim
  |none =>
   cases dx with
   |int i =>
    obtain rfl:=aio rx
    by_cases hc:CMul i k
    .simp only [a1h,aE hc] at o;exact .inl ⟨i,k,rfl,rfl,hc,ans o (.int _) hr⟩
    .simp only [a1h,aS hc] at o;exact o.elim
   |_=>simp only [a1h,hx] at o;exact o.elim
 |_=>exact o.elim
theorem a3s(ha:ME X E a fa)(hb:ME X E b fb):ME X E (.BinOp a .Mult b pos) (s2 a1h fa fb):=age (aue.or ark) amw ha hb
noncomputable def amx:D->List D->Hd->R D
 |.ref i,[.tup ys],h=>(match h[i]? with|some (.lst xs)=>if xs.length+ys.length<=LINE then .ok .non (h.set i (.lst (xs++ys))) else .no|_=>.no)
 |.ref i,[y],h=>(match h[i]?,ur y h with|some (.lst xs),some ys=>if xs.length+ys.length<=LINE then .ok .non (h.set i (.lst (xs++ys))) else .no|_,_=>.no)
 |_,_,_=>.no
theorem amy:atg K amx (λx vs H Q=>avp x vs H Q\/aee K x vs H Q):=by
 intro E U H h x dx xs ds Q rx r hr o
 unfold amx at o
 split at o
 .rename_i i ys
  cases rx with
  |@ref p _ hp =>
   cases r with
   |cons r1 rs =>
    cases rs
    cases r1 with
    |@tup b us zs hb rb =>
     split at o
     .rename_i xs hx;obtain ⟨vs,h3,h4⟩:=hr.lst hp hx
      split at o
      .rename_i hc;exact .inr ⟨p,b,vs,us,rfl,rfl,h3,SqT.of hb,ll (by rw [h4.len,rb.len];exact hc),acs (h4.app rb) hr hp .non o⟩
      .exact o.elim
     .exact o.elim
 .rename_i i y _
  cases rx with
  |@ref p _ hp =>
   cases r with
   |cons r1 rs =>
    cases rs
    split at o
    .rename_i xs ys hx hy;obtain ⟨vs,h3,h4⟩:=hr.lst hp hx;obtain ⟨b,us,rfl,h5,h6⟩:=zu r1 hr hy
     split at o
     .rename_i hc;exact .inl ⟨p,b,vs,us,rfl,rfl,h3,h5,ll (by rw [h4.len,h6.len];exact hc),acs (h4.app h6) hr hp .non o⟩
     .exact o.elim
    .exact o.elim
 .exact o.elim
end
end MI
namespace MI
open L2
noncomputable def aj6(d:D)(h:Hd):Option (List Int):=match d with
 |.ref i=>(match h[i]? with|some (.lst xs)=>a9e xs|_=>none)
 |.rol xs=>a9e xs
 |_=>none
theorem aj7(r:Rep K U H v d)(hr:HRep K U H h)(e:aj6 d h=some ns):∃p,v=.ref p/\SqL K H p (ns.map V.int):=by
 unfold aj6 at e
 split at e
 .cases r with
  |@ref p _ hp =>
   split at e
   .rename_i xs hx;obtain ⟨vs,h3,h4⟩:=hr.lst hp hx;exact ⟨p,rfl,SqL.of (by rw [h3,a6c h4 e])⟩
   .cases e
 .cases r with
  |@rol p vs xs hp r=>exact ⟨p,rfl,by rw [<-a6c r e];exact hp.l⟩
 .cases e
end MI
namespace L2
open PyProof.Rows
end L2
namespace MI
open L2
end MI
namespace L2
open PyProof.Rows
noncomputable def ixI(n:Int):List Int->Option Nat
 |[]=>none
 |a::l=>if a=n then some 0 else (ixI n l).map (·+1)
end L2
namespace MI
open L2
def b0b:D->Option Key
 |.int i=>some (.inl i)
 |.str x=>some (.inr x)
 |_=>none
def b1n:D->Option (List Key)
 |.tup xs=>a03 b0b xs
 |_=>none
noncomputable def putD{κ:Type}[DecidableEq κ](kvs:List (κ×D))(k:κ)(d:D):List (κ×D):=if (kvs.any λkv=>decide (kv.1=k))=true then kvs.map λkv=>if kv.1=k then (kv.1,d) else kv else kvs++[(k,d)]
section
variable{K:PySem.W.Frag}{U:List Addr}{H:Hp}{h:Hd}
variable{X:Cx}{E:XD}{a b e o i:Expr}{fa fb fc:SE}{pos:Pos}
noncomputable def b1o(o k v:D)(h:Hd):Option Hd:=match o with
 |.ref i=>(match h[i]? with
  |some (.dK kvs)=>(match b0b k with|some kk=>if kvs.length<LINE then some (h.set i (.dK (putD kvs kk v))) else none|none=>none)
  |some (.dT kvs)=>(match b1n k with|some kk=>if kvs.length<LINE then some (h.set i (.dT (putD kvs kk v))) else none|none=>none)
  |_=>none)
 |_=>none
noncomputable def amz(fe fo fi:SE):SS:=λτ h=>(fe τ h).fl λv h1=>(fo τ h1).fl λo h2=>(fi τ h2).fl λk h3=>match b1o o k v h3 with|some h4=>.nx τ h4|none=>.no
end
end MI
namespace ZP
open PySem.Builtin PySem.Builtin.SmallTypes L2
end ZP
namespace MI
open L2 ZP
noncomputable def arn(x:D)(h:Hd):R Itm:=match srcOf x h with
 |some (xs,c)=>.ok ⟨((List.range xs.length).zip xs).map λp=>.tup [.int (p.1:Nat),p.2],c⟩ h
 |none=>.no
def avr(f:SE):SI:=λτ h=>(f τ h).bind arn
end MI
namespace L2
open PyProof.Rows
end L2
namespace MI
open L2
end MI
namespace L2
open PyProof.Rows
def Itd(lo:Int)(n:Nat):It:=⟨λi _=>i<n,λi H x H'=>H'=H/\x=.int (lo-i),λi _=>n<=i⟩
theorem aj8{P:Program}{w:World}{K:PySem.W.Frag}{tg:Expr}(it:Addr)(lo:Int)(n:Nat):Turn P w K tg (Itd lo n) [it] it (λi h=>IsRangeIter h it (lo-(i:Nat)) ((n:Int)-(i:Nat)) (-1)) where
 mem:=by simp
 obj:=λi h st b hb=>by
  cases aD.mp hb
  exact ⟨_,st,λv z=>nomatch (show Data.fields _=Data.cell v from z)⟩
 keep:=λi h h' st k=>k it (by simp) _ st
 item:=by
  intro X hP hw hK hc i pins s Z H E I hf st hg
  subst hP hw hK;obtain ⟨f0,f1,f2,f3,f4,f5⟩:=hf it (by simp)
  have hg:i<n:=hg;refine wpAny_pyNext_range_item st (by omega) λh' st' sb=>?_
  have I1:Inv X pins Z H {s with heap:=h',toks:=s.toks+1}:=I.turned (λb o hb e=>sb.extBut b o hb e) f0 f1 f3 f4 f5
  have e1:lo-(i:Nat) + -1=lo-((i+1:Nat):Int):=by omega
  have e2:(n:Int)-(i:Nat)-1=(n:Int)-((i+1:Nat):Int):=by omega
  have st2:IsRangeIter h' it (lo-((i+1:Nat):Int)) ((n:Int)-((i+1:Nat):Int)) (-1):=by rw [<-e1,<-e2];exact st'
  exact ⟨_,rfl,ahr (s:={s with heap:=h',toks:=s.toks+1}) (n := "range_iterator") st' rfl rfl (by decide) ⟨.int (lo-i),H,I1,⟨_,rfl⟩,⟨rfl,rfl⟩,st2,λb hb=>(hf b hb).1⟩⟩
 done:=by
  intro X hP hw hK hc i pins s Z H E I hf st hg
  subst hP hw hK;obtain ⟨f0,f1,f2,f3,f4,f5⟩:=hf it (by simp)
  exact wpAny_pyNext_range_end (I.ok.hd hc) st (by have:n<=i:=hg;omega) λh' eb=>⟨rfl,I.turned (t':=s.toks) (λb o hb e=>eb b o hb e) f0 f1 f3 f4 f5⟩
 self:=λ_ _ _ _ _ st h=>fU st h
end L2
namespace MI
open L2
def an0(lo:Int)(n:Nat):List D:=(List.range n).map λi=>D.int (lo-(i:Nat))
noncomputable def avs(ds:List D)(h:Hd):R Itm:=match ds with
 |[.int i,.int j,.int k]=>if k = -1/\B62 i/\B62 j then .ok ⟨an0 i (i-j).toNat,λ_=>True⟩ h else .no
 |_=>.no
theorem avt(lo:Int)(n:Nat):alr K U0 H0 (Itd lo n) ⟨an0 lo n,λ_=>True⟩:=by
 intro U H h g hr _
 refine ⟨λi d ed=>?_,by show n<=(an0 lo n).length;simp [an0]⟩
 simp only [an0,aN,aQ] at ed;obtain ⟨j,ej,rfl⟩:=ed;obtain ⟨hj,e⟩:=am.mp ej;simp at e hj;subst e;refine ⟨hj,λy H' q=>?_⟩;obtain ⟨rfl,rfl⟩:=q;exact ⟨.refl _ _,.int _,hr⟩
theorem cj{α β:Type}(a:α)(h:Hd)(k:α->Hd->R β):(R.ok a h).bind k=k a h:=rfl
theorem a7b{α:Type}(a:α)(h:Hd)(k:α->Hd->Fl):(R.ok a h).fl k=k a h:=rfl
noncomputable def thn(r:Fl)(g:SS):Fl:=match r with|.nx τ h=>g τ h|r=>r
theorem yj(f g:SS)(τ:Sd)(h:Hd):jg f g τ h=thn (f τ h) g:=by unfold jg thn;cases f τ h<;>rfl
theorem a5u(τ:Sd)(h:Hd)(g:SS):thn (.nx τ h) g=g τ h:=rfl
theorem aex(d:D)(h:Hd)(g:SS):thn (.rt d h) g=.rt d h:=rfl
noncomputable def toR(r:Fl):R D:=match r with|.rt d h1=>.ok d h1|.nx _ h1=>.ok .non h1|.ex c h1=>.ex c h1|_=>.no
theorem jf(b:SS)(n:Nat)(ds:List D)(h:Hd):qb b n ds h=toR (b (a4b n ds) h):=by unfold qb toR;cases b (a4b n ds) h<;>rfl
theorem abm(d:D)(h:Hd):toR (.rt d h)=.ok d h:=rfl
theorem aey(τ:Sd)(h:Hd):toR (.nx τ h)=.ok .non h:=rfl
theorem lu:∀{xs:List D},clos n xs↔∀x∈xs,clo n x
 |[]=>by simp [clos]
 |x::xs=>by simp [clos,lu (xs:=xs)]
theorem dw(i:Int):clo n (.int i):=by simp [clo]
theorem j5(i:Str):clo n (.str i):=by simp [clo]
theorem a7c(i:Bool):clo n (.bl i):=by simp [clo]
theorem a05:clo n .non:=by simp [clo]
theorem gf:clos n []:=by simp [clos]
theorem bh(a:clo n x)(b:clos n xs):clos n (x::xs):=by simp only [clos];exact ⟨a,b⟩
theorem kh(h:clos n xs):clo n (.tup xs):=by simpa [clo] using h
theorem qm(h:clos n xs):clo n (.rol xs):=by simpa [clo] using h
theorem gw{α:Type}{n:Nat}{f:α->D}{l:List α}(h:∀a∈l,clo n (f a)):clos n (l.map f):=by
 rw [lu]
 intro x hx
 obtain ⟨a,ha,rfl⟩:=b6.mp hx;exact h a ha
mutual
theorem aj9(hm:n<=m):∀{d:D},clo n d->clo m d
 |.non,_=>by simp [clo]
 |.bl _,_=>by simp [clo]
 |.int _,_=>by simp [clo]
 |.str _,_=>by simp [clo]
 |.ty _,_=>by simp [clo]
 |.tup xs,h=>by simp only [clo] at h ⊢;exact a0h hm h
 |.rol xs,h=>by simp only [clo] at h ⊢;exact a0h hm h
 |.scr xs,h=>by simp only [clo] at h ⊢;exact a0h hm h
 |.rod _ xs,h=>by simp only [clo] at h ⊢;exact a0h hm h
 |.rdT _ xs,h=>by simp only [clo] at h ⊢;exact a0h hm h
 |.exc _,_=>by simp [clo]
 |.ref i,h=>by simp only [clo] at h ⊢;omega
theorem a0h(hm:n<=m):∀{xs:List D},clos n xs->clos m xs
 |[],_=>by simp [clos]
 |x::xs,h=>by simp only [clos] at h ⊢;exact ⟨aj9 hm h.1,a0h hm h.2⟩
end
theorem a5d(hm:n<=m)(h:ux n o):ux m o:=by
 cases o with
 |lst xs=>exact a0h hm h
 |dK kvs=>exact a0h hm h
 |dT kvs=>exact a0h hm h
theorem ad4{α:Type}{f:α->Option α}:∀{xs:List α},(∀x∈xs,f x=some x)->a03 f xs=some xs
 |[],_=>rfl
 |x::xs,h=>by
  unfold a03;rw [h x aI,ad4 λy hy=>h y (ay _ hy)]
theorem aez(c:clo n d):a88 n h (k+1) d=some d:=by unfold a88;rw [aE c]
theorem an1(c:ux n o):avk n h k o=some o:=by unfold avk;rw [aE c]
theorem an2{n k i:Nat}{h:Hd}{xs:List D}(hi:n<=i)(e:h[i]? = some (.lst xs))(c:clos n xs):a88 n h (k+2) (.ref i)=some (.rol xs):=by
 unfold a88;rw [aS (by simp only [clo];omega)]
 simp only [e];rw [ad4 λx hx=>aez (lu.mp c x hx)];rfl
theorem a7d{n:Nat}{d d':D}{h1:Hd}(e:a88 n h1 FU d=some d')(c:∀o∈h1.take n,ux n o):a9j n (.ok d h1)=.ok d' (h1.take n):=by
 unfold a9j;simp only [e];rw [ad4 λo ho=>an1 (c o ho)]
theorem a0c{h1:Hd}(e:clo n d)(c:∀o∈h1.take n,ux n o):a9j n (.ok d h1)=.ok d (h1.take n):=a7d (aez e) c
theorem a2p(hi:n<=i)(e:h1[i]? = some (.lst xs))(cx:clos n xs)(c:∀o∈h1.take n,ux n o):a9j n (.ok (.ref i) h1)=.ok (.rol xs) (h1.take n):=a7d (an2 hi e cx) c
theorem zx(e:f τ h=.ok (.ref h.length) (h++[.lst xs]))(cx:clos h.length xs)(c:∀o∈h,ux h.length o):sZ f τ h=.ok (.rol xs) h:=by
 unfold sZ;rw [e,a2p (aA _) (by simp) cx (by simpa using c)]
 simp
theorem az6(e:f τ h=.ok d h)(cx:clo h.length d)(c:∀o∈h,ux h.length o):sZ f τ h=.ok d h:=by
 unfold sZ;rw [e,a0c cx (by simpa using c)]
 simp
def Pu(F:SF)(n:Nat)(ds:List D)(d:D):Prop:=∀h,kj false n F ds h=.ok d h
def Dr(F:SF)(n:Nat)(ds:List D)(o:O)(d:D)(o':O):Prop:=∀p h,h[p]? = some o->kj false n F (.ref p::ds) h=.ok d (h.set p o')
theorem a4e:∀{ds:List D},(∀d∈ds,clo 0 d)->a1v ds=[]/\a0q 0 ds=ds/\∀k,a0q k ds=ds
 |[],_=>⟨rfl,rfl,λ_=>rfl⟩
 |d::ds,h=>by
  obtain ⟨a,b,c⟩:=a4e (ds:=ds) λx hx=>h x (ay _ hx);have hd:=h d aI;have nr:refOf d=none:=by cases d<;>first|rfl|(simp only [clo] at hd;omega)
  refine ⟨?_,?_,λk=>?_⟩
  .simpa [a1v,nr] using a
  .cases d<;>first|(simp only [clo] at hd;omega)|(simp only [a0q,b])
  .cases d<;>first|(simp only [clo] at hd;omega)|(simp only [a0q,c])
theorem Pu.of{ds:List D}(hn:ds.length=n)(cd:∀x∈ds,clo 0 x)(e:F ds []=r)(z:a9j 0 r=.ok d [])(c:clo 0 d):Pu F n ds d:=λh=>by
 obtain ⟨p1,p2,_⟩:=a4e cd;unfold kj;rw [aE hn];unfold ati;rw [p1];simp only [a03,bH,bi,dC];rw [aE ⟨fq,λx hx=>.inl (cd x hx),λo ho=>by simp at ho⟩,p2,e,z]
 simp [c,xm]
theorem Dr.of{ds:List D}(hn:ds.length+1=n)(cd:∀x∈ds,clo 0 x)(co:ux 0 o)(e:F (.ref 0::ds) [o]=r)(z:a9j 1 r=.ok d [o'])(c:clo 0 d)(co':ux 0 o'):Dr F n ds o d o':=λp h hp=>by
 obtain ⟨p1,_,p3⟩:=a4e cd;have e1:a1v (.ref p::ds)=[p]:=by
  have:a1v (.ref p::ds)=p::a1v ds:=rfl
  rw [this,p1]
 have e2:a0q 0 (.ref p::ds)=.ref 0::ds:=by
  have:a0q 0 (.ref p::ds)=.ref 0::a0q 1 ds:=rfl
  rw [this,p3]
 unfold kj;rw [aE (by simpa using hn)]
 unfold ati;rw [e1];simp only [a03,hp,aK,bi,dC];have all:∀x∈(D.ref p::ds),clo 0 x\/isRef x:=λx hx=>by
  rcases aC.mp hx with rfl|hx
  .exact .inr ⟨p,rfl⟩
  .exact .inl (cd x hx)
 rw [aE ⟨by simp,all,λu hu=>by rw [aD.mp hu];exact co⟩,e2,e,z]
 simp [c,co',xm]
theorem avu{ds:List D}(hn:ds.length=n)(cd:∀x∈ds,clo 0 x)(e:F ds []=.ok (.ref i) h1)(ho:h1[i]? = some o)(co:ux 0 o)(h:Hd):kj true n F ds h=.ok (.ref h.length) (h++[o]):=by
 obtain ⟨p1,p2,_⟩:=a4e cd;unfold kj;rw [aE hn];unfold ati;rw [p1];simp only [a03,bH,db];rw [aE ⟨fq,λx hx=>.inl (cd x hx),λo ho=>by simp at ho⟩,p2,e]
 unfold ath;simp only [ho];rw [aE ⟨bq _,co,by simp⟩]
 simp [co,xm]
theorem an3(g:SG)(b:SS)(τ:Sd)(h:Hd):forL (λ_=>True) g b [] τ h=.nx τ h:=by rw [forL,aE True.intro]
noncomputable def trn(r:Fl)(k:Sd->Hd->Fl):Fl:=match r with|.nx τ h=>k τ h|.ct τ h=>k τ h|.bk τ h=>.nx τ h|r=>r
theorem aja(g:SG)(b:SS)(x:D)(xs:List D)(τ τ1:Sd)(h h1:Hd)(e:g x τ h=.nx τ1 h1):forL (λ_=>True) g b (x::xs) τ h=trn (b τ1 h1) (forL (λ_=>True) g b xs):=by
 rw [forL,aE True.intro,e];dsimp only;unfold trn
 cases b τ1 h1<;>rfl
theorem avv(τ:Sd)(h:Hd)(k:Sd->Hd->Fl):trn (.nx τ h) k=k τ h:=rfl
theorem avw(d:D)(h:Hd)(k:Sd->Hd->Fl):trn (.rt d h) k=.rt d h:=rfl
theorem a9l{g:SG}{b:SS}{α:Type}(f:α->D)(I:List α->Sd->Hd->Prop)(Rt:D->Hd->Prop):∀(xs pre:List α) (τ:Sd) (h:Hd),
  (∀pre' x post τ h,pre++xs=pre'++x::post->I pre' τ h->∃τ1 h1,g (f x) τ h=.nx τ1 h1/\((∃τ2 h2,b τ1 h1=.nx τ2 h2/\I (pre'++[x]) τ2 h2)\/∃d h2,b τ1 h1=.rt d h2/\Rt d h2))->I pre τ h->
  (∃τ' h',forL (λ_=>True) g b (xs.map f) τ h=.nx τ' h'/\I (pre++xs) τ' h')\/∃d h',forL (λ_=>True) g b (xs.map f) τ h=.rt d h'/\Rt d h'
 |[],pre,τ,h,_,i0=>.inl ⟨τ,h,an3 ..,by simpa using i0⟩
 |x::xs,pre,τ,h,st,i0=>by
  obtain ⟨τ1,h1,e1,q⟩:=st pre x xs τ h rfl i0;rw [aT,aja _ _ _ _ _ _ _ _ e1]
  rcases q with ⟨τ2,h2,e2,i2⟩|⟨d,h2,e2,r⟩
  .rw [e2,avv];have:=a9l f I Rt xs (pre++[x]) τ2 h2 (λpre' y post τ h e=>st pre' y post τ h (by simpa using e)) i2
   simpa using this
  .rw [e2,avw];exact .inr ⟨d,h2,rfl,r⟩
theorem vy{g:SG}{b:SS}{α:Type}(f:α->D)(I:List α->Sd->Hd->Prop)(xs:List α)(τ:Sd)(h:Hd)
  (st:∀pre x post τ h,xs=pre++x::post->I pre τ h->∃τ1 h1,g (f x) τ h=.nx τ1 h1/\∃τ2 h2,b τ1 h1=.nx τ2 h2/\I (pre++[x]) τ2 h2) (i0:I [] τ h) :
  ∃τ' h',forL (λ_=>True) g b (xs.map f) τ h=.nx τ' h'/\I xs τ' h':=by
 rcases a9l f I (λ_ _=>False) xs [] τ h (λpre' x post τ h e i=>let ⟨τ1,h1,a,b⟩:=st pre' x post τ h e i; ⟨τ1,h1,a,.inl b⟩) i0 with ⟨τ',h',a,b⟩|⟨_,_,_,z⟩
 .exact ⟨τ',h',a,b⟩
 .exact z.elim
theorem a9m{f:D->Hd->R D}{α:Type}(g:α->D)(I:List α->List D->Hd->Prop):∀(xs pre:List α) (ys:List D) (h:Hd),
  (∀pre' x post ys h,pre++xs=pre'++x::post->I pre' ys h->∃y h',f (g x) h=.ok y h'/\I (pre'++[x]) (ys++[y]) h')->I pre ys h->∃zs h',mapR (λ_=>True) f (xs.map g) h=.ok zs h'/\I (pre++xs) (ys++zs) h'
 |[],pre,ys,h,_,i0=>⟨[],h,by rw [dD,mapR,aE True.intro],by simpa using i0⟩
 |x::xs,pre,ys,h,st,i0=>by
  obtain ⟨y,h1,e1,i1⟩:=st pre x xs ys h rfl i0;obtain ⟨zs,h',e2,i2⟩:=a9m g I xs (pre++[x]) (ys++[y]) h1 (λpre' z post ys h e=>st pre' z post ys h (by simpa using e)) i1
  refine ⟨y::zs,h',?_,by simpa using i2⟩
  rw [aT,mapR,aE True.intro,e1];show (mapR _ f (xs.map g) h1).bind _=_;rw [e2];rfl
theorem abn{f:D->Hd->R D}{α:Type}(g F:α->D){h:Hd}:∀{xs:List α},(∀x∈xs,f (g x) h=.ok (F x) h)->mapR (λ_=>True) f (xs.map g) h=.ok (xs.map F) h
 |[],_=>by rw [dD,mapR,aE True.intro];rfl
 |x::xs,st=>by
  rw [aT,mapR,aE True.intro,st x aI];show (mapR _ f (xs.map g) h).bind _=_;rw [abn g F λy hy=>st y (ay _ hy)];rfl
theorem abo{f:D->Hd->R (Option D)}{α:Type}(g:α->D)(F:α->Option D){h:Hd}:∀{xs:List α},(∀x∈xs,f (g x) h=.ok (F x) h)->als (λ_=>True) f (xs.map g) h=.ok (xs.filterMap F) h
 |[],_=>by rw [dD,als,aE True.intro];rfl
 |x::xs,st=>by
  rw [aT,als,aE True.intro,st x aI];show (als _ f (xs.map g) h).bind _=_;rw [abo g F λy hy=>st y (ay _ hy)];show R.ok ((F x).toList++xs.filterMap F) h=_
  cases e:F x<;>simp [cE,e]
theorem az7(I:Nat->Sd->Hd->Prop)(N:Sd->Hd->Prop)(Rt:D->Hd->Prop)
  (st:∀m τ h,I m τ h->(∃h1,c τ h=.ok false h1/\N τ h1)\/∃h1,c τ h=.ok true h1/\((∃τ2 h2 m',f τ h1=.nx τ2 h2/\m'<m/\I m' τ2 h2)\/∃d h2,f τ h1=.rt d h2/\Rt d h2)) :
  ∀(m n:Nat) (τ:Sd) (h:Hd),m<n->I m τ h->(∃τ' h',sWh c f n τ h=.nx τ' h'/\N τ' h')\/∃d h',sWh c f n τ h=.rt d h'/\Rt d h':=by
 intro m
 induction m using Nat.strongRecOn with
 |ind m ih =>
  intro n τ h hn i0
  cases n with
  |zero=>omega
  |succ n =>
   rcases st m τ h i0 with ⟨h1,e1,q⟩|⟨h1,e1,q⟩
   .exact .inl ⟨τ,h1,by rw [sWh,e1];rfl,q⟩
   .rcases q with ⟨τ2,h2,m',e2,lt,i2⟩|⟨d,h2,e2,r⟩
    .have e3:sWh c f (n+1) τ h=sWh c f n τ2 h2:=by
      rw [sWh,e1,a7b,aE rfl,e2]
     rw [e3];exact ih m' lt n τ2 h2 (by omega) i2
    .refine .inr ⟨d,h2,?_,r⟩;rw [sWh,e1,a7b,aE rfl,e2]
structure KD (P:Program) (w:World) (K:PySem.W.Frag) (a:Addr) (kvs:List (Str×Str)):Prop where
 sys:(a == sysModules)=false
 ex:∃(o:Obj) (vs:List (Key×Value)),K.lookup a=some o/\KV (kvs.map λp=>((.inr p.1:Key),V.str p.2)) vs/\∀h:Heap,h.get? a=some o->h.DictOf (a6k P w) a vs
section
variable{X:Cx}{E:XD}{e:Expr}{fa:SE}{pos p:Pos}{a:Addr}{kvs:List (Str×Str)}{x:Str}
theorem KD.at(kd:KD X.prog X.w X.K a kvs)(I:Inv X pins Z H s):∃vs,KV (kvs.map λp=>((.inr p.1:Key),V.str p.2)) vs/\s.heap.DictOf (a6k X.prog X.w) a vs:=by
 obtain ⟨o,vs,l,r,d⟩:=kd.ex;exact ⟨vs,r,d _ (I.bk _ _ (I.mod.kin _ _ l))⟩
end
mutual
def toPy:D->Option PyData
 |.non=>some .none
 |.bl b=>some (.bool b)
 |.int i=>some (.int i)
 |.str x=>some (.str x)
 |.tup xs=>(aro xs).map .tuple
 |.rol xs=>(aro xs).map .list
 |.rod [] []=>some (.dict [])
 |_=>none
def aro:List D->Option (List PyData)
 |[]=>some []
 |x::xs=>match toPy x,aro xs with|some p,some ps=>some (p::ps)|_,_=>none
end
mutual
def noL:D->Bool
 |.rol _=>false
 |.tup xs=>b0c xs
 |_=>true
def b0c:List D->Bool
 |[]=>true
 |x::xs=>noL x && b0c xs
end
open Classical in
theorem qw:CallR X (.builtin "isinstance") (λxs H Q=>∃a o us T b,xs=[.ref a,.ty T]/\H a=some (.frz o (.dK us))/\PySem.W.kitOne X.K (.type "dict") (.type T)=some b/\Q (.bl b) H):=by
 intro pins s Z H xs us Q I r h
 obtain ⟨a,o,kv,T,b,rfl,ea,e,q⟩:=h;obtain ⟨u,w',rfl,rx,rt⟩:=vals2 r;cases rt
 obtain rfl:u=Value.ref a:=rx
 obtain ⟨_,_,_,vs,_,p⟩:=(show ObjOk X.prog X.w H s.heap a (.frz o (.dK kv)) from I.hok a _ ea)
 obtain ⟨o',es,ep,h1,h2,_⟩:=p;exact cF i3 I.kIn ⟨o',h1,h2.1⟩ e (λz=>nomatch z) λtk=>⟨.bl b,H,I.tok tk,rfl,q⟩
noncomputable def sr:List D->Hd->R D
 |[.rod ks xs,.ty T],h=>(match ahk "dict" T with|some b=>.ok (.bl b) h|none=>.no)
 |ds,h=>alu ds h
theorem a0d:alq K sr (λxs H Q=>(∃x T t b,xs=[x,.ty T]/\TyOf K H x t/\PySem.W.kitOne K t (.type T)=some b/\Q (.bl b) H)\/∃a o us T b,xs=[.ref a,.ty T]/\H a=some (.frz o (.dK us))/\PySem.W.kitOne K (.type "dict") (.type T)=some b/\Q (.bl b) H):=by
 intro E U H h xs ds Q r hr o
 unfold sr at o
 split at o
 .split at o
  .rename_i b hb
   cases r with
   |cons r1 rs =>
    cases rs with
    |cons r2 rs2 =>
     cases rs2
     cases r2
     cases r1 with
     |rod hp ek rr=>exact .inr ⟨_,_,_,_,b,rfl,hp,ait hb,ans o (.bl _) hr⟩
  .exact o.elim
 .exact .inl (ar6 E U H h xs _ Q r hr o)
end MI
namespace TPM
open PySem.W L2 HT MI PyProof.Rows
end TPM
namespace MI
open L2 TPM
end MI
namespace L2
open PyProof.Rows
end L2
namespace MI
open L2
end MI
namespace PN
open L2 MI
def a4f:SS :=
 (o9 (sA uz (aj (sZ (a2a (sV 0) oN (oS (sC (.int 63))))) (aj (sC (.int 0)) (aj (sC (.int 0)) bz)))))
def a5e:SS :=
 (jg (sIf (sT (s2 gGt (s2 gIx (sV 0) (sC (.int 2))) (sC (.int 0))))
 (jg (n6 2 (s2 acw (s2 gIx (sV 0) (sC (.int 2))) (sV 1)))
 (jg (aej (s2 aii (s2 gIx (sV 0) (sC (.int 2))) (sV 1)) (sV 0) (sC (.int 2)))
 (o9 (sV 2))))
 sNx)
 (jg (n6 3 (s2 gIx (sV 0) (sC (.int 1))))
 (jg (aej (s2 jo (sV 3) (sC (.int 1))) (sV 0) (sC (.int 1)))
 (jg (n6 4 (sC (.int 5)))
 (jg (sIf (sT (s2 gGt (sA qu (aj (s2 gIx (sV 0) (sC (.int 0))) bz)) (sC (.int 0))))
 (n6 4 (s2 gIx (s2 gIx (sV 0) (sC (.int 0))) (s2 acw (sV 3) (sA qu (aj (s2 gIx (sV 0) (sC (.int 0))) bz)))))
 sNx)
 (jg (sIf (a8m (sT (s2 gLt (sV 3) (sA qu (aj (s2 gIx (sV 0) (sC (.int 0))) bz)))) (sT (s2 gGe (sA avb (aj (sV 4) bz)) (s2 aij (sC (.int 10)) (sC (.int 18))))))
 (jg (n6 5 (s2 jo (s2 a1h (sC (.int 2)) (sA avb (aj (sV 4) bz))) (sA agg (aj (s2 gLt (sV 4) (sC (.int 0))) bz))))
 (jg (aej (s2 aii (sV 5) (sV 1)) (sV 0) (sC (.int 2)))
 (o9 (s2 acw (sV 5) (sV 1)))))
 sNx)
 (jg (n6 6 (s2 acw (s2 aij (s2 jo (s2 jo (s2 acw (sV 4) (sC (.int 2147483587))) (s2 a1h (sC (.int 40709)) (sV 3))) (sC (.int 31))) (sC (.int 3))) (sC (.int 2147483647))))
 (jg (n6 6 (s2 acw (s2 jo (s2 jo (s2 a1h (sV 6) (sV 6)) (s2 a1h (sC (.int 48271)) (sV 6))) (sV 3)) (sC (.int 2147483629))))
 (o9 (s2 acw (s2 aii (sV 6) (sC (.int 64))) (sV 1)))))))))))
def a06:SS :=
 (jg (n6 0 (sC (.str " !\"#$&'()*+,-./0123456789:;<=>?@ABCDEFGHIJKLMNOPQRSTUVWXYZ[\\]^_`")))
 (o9 (s2 jo (sV 0) (sC (.str "abcdefghijklmnopqrstuvwxyz{|}~\n")))))
def zy(az:SF):SS :=
 (jg (n6 5 (sA (kj false 2 az) (aj (sV 0) (aj (sA qu (aj (sV 1) bz)) bz))))
 (jg (n6 3 (s2 jo (sV 3) (s2 gIx (sV 1) (sV 5))))
 (n6 1 (s2 jo (a2a (sV 1) oN (oS (sV 5))) (a2a (sV 1) (oS (s2 jo (sV 5) (sC (.int 1)))) oN)))))
def a5f(az:SF):SS :=
 (jg (n6 3 (sC (.str "")))
 (jg (a8o (sRg v4 (aj (s2 jo (sC (.int 1)) (sA (kj false 2 az) (aj (sV 0) (aj (sV 2) bz)))) bz)) (kN 4) (zy az))
 (o9 (sV 3))))
end PN
namespace L2
open PySem.W PyProof.Rows
end L2
namespace L2
open PySem.W PyProof.Rows Builtin Builtin.ObjectAttr Builtin.Getset_descriptor
section
variable{prog:Program}{w:World}{A:Around}{E:Value->Shared->Prop}{s:Shared}{K:Frag}{x D:Addr}{ox:Obj}{odo:Option Obj}
structure XKit (K:Frag) (D:Addr):Prop where
 ga:findIn K (.ref D) "__getattribute__" = some (some (.builtin "BaseException.__getattribute__"))
 gn:findIn K (.ref D) "__getattr__" = some none
 cl:(clsIn K D).isSome=true
 ca:findIn K (.ref D) "__class__" = some (some (.builtin "object.__class__"))
 sp:specialIn K (.builtin "object.__class__") "__get__" = some (some (.builtin "getset_descriptor.__get__"))
 tk:takesIn K (.builtin "object.__class__")=some true
 ob:mroIn K D (.type "object")=some true
 be:subIn K (.ref D) (.type "BaseException")=some true
 kc:kitCls K (.ref D) (.ref D)=some true
abbrev ExAt(x D:Addr)(h:Heap):Prop:=∃o,h.get? x=some o/\o.cls=.ref D
theorem ExAt.ty(I:ExAt x D h):Looks M h (typeOf (.ref x)) (.ref D):=by
 obtain ⟨o,q,c⟩:=I;exact c ▸ (Looks.ld q).andThen .now
theorem XKit.at(Z:XKit K D):∃c o cd sl,K.lookup D=some ⟨c,o,.cls cd,sl⟩:=by
 have:=Z.cl
 unfold clsIn at this
 split at this
 .exact ⟨_,_,_,_, ‹_›⟩
 .cases this
theorem XKit.no(Z:XKit K D){its:List Value}(X:K.In h)(q:h.get? tp=some ⟨.type "tuple",dd,.seq its.toArray n,sl⟩):(Value.ref D == .ref tp)=false :=
 da.mpr λe=>by
  obtain ⟨_,_,_,_,lo⟩:=Z.at;rw [Value.ref.inj e] at lo;have:=X _ _ lo;rw [q] at this;cases this
end
end L2
namespace L2
open PySem.W PyProof.Rows
end L2
namespace MI
open L2
end MI
namespace EVX
open L2 MI
end EVX
namespace MI
open L2
end MI
namespace EVX
open L2 MI
end EVX
namespace ZP
open PySem.Builtin PySem.Builtin.SmallTypes L2
end ZP
namespace MI
open L2 ZP
end MI
namespace AT
open L2
theorem an4{α:Type}(x0:α)(xs:List α):atI (x0::xs) 0=some x0:=ye (j:=0) rfl
theorem an5{α:Type}(x0 x1:α)(xs:List α):atI (x0::x1::xs) 1=some x1:=ye (j:=1) rfl
theorem an6{α:Type}(x0 x1 x2:α)(xs:List α):atI (x0::x1::x2::xs) 2=some x2:=ye (j:=2) rfl
theorem an7{α:Type}(x0 x1 x2 x3:α)(xs:List α):atI (x0::x1::x2::x3::xs) 3=some x3:=ye (j:=3) rfl
theorem an8{α:Type}(x0 x1 x2 x3 x4:α)(xs:List α):atI (x0::x1::x2::x3::x4::xs) 4=some x4:=ye (j:=4) rfl
theorem an9{α:Type}(x0 x1 x2 x3 x4 x5:α)(xs:List α):atI (x0::x1::x2::x3::x4::x5::xs) 5=some x5:=ye (j:=5) rfl
theorem ana{α:Type}(x0 x1 x2 x3 x4 x5 x6:α)(xs:List α):atI (x0::x1::x2::x3::x4::x5::x6::xs) 6=some x6:=ye (j:=6) rfl
theorem anb{α:Type}(x0 x1 x2 x3 x4 x5 x6 x7:α)(xs:List α):atI (x0::x1::x2::x3::x4::x5::x6::x7::xs) 7=some x7:=ye (j:=7) rfl
theorem x10:ixN 1 0=some 0:=rfl
theorem x20:ixN 2 0=some 0:=rfl
theorem x21:ixN 2 1=some 1:=rfl
theorem x30:ixN 3 0=some 0:=rfl
theorem x31:ixN 3 1=some 1:=rfl
theorem x32:ixN 3 2=some 2:=rfl
theorem x40:ixN 4 0=some 0:=rfl
theorem x41:ixN 4 1=some 1:=rfl
theorem x42:ixN 4 2=some 2:=rfl
theorem x43:ixN 4 3=some 3:=rfl
theorem x50:ixN 5 0=some 0:=rfl
theorem x51:ixN 5 1=some 1:=rfl
theorem x52:ixN 5 2=some 2:=rfl
theorem x53:ixN 5 3=some 3:=rfl
theorem x54:ixN 5 4=some 4:=rfl
theorem x60:ixN 6 0=some 0:=rfl
theorem x61:ixN 6 1=some 1:=rfl
theorem x62:ixN 6 2=some 2:=rfl
theorem x63:ixN 6 3=some 3:=rfl
theorem x64:ixN 6 4=some 4:=rfl
theorem x65:ixN 6 5=some 5:=rfl
theorem x70:ixN 7 0=some 0:=rfl
theorem x71:ixN 7 1=some 1:=rfl
theorem x72:ixN 7 2=some 2:=rfl
theorem x73:ixN 7 3=some 3:=rfl
theorem x74:ixN 7 4=some 4:=rfl
theorem x75:ixN 7 5=some 5:=rfl
theorem x76:ixN 7 6=some 6:=rfl
def ap9(x:Int):Int:=if x<0 then -x else x
theorem anc(x:Int)(h:MI.Hd):MI.avb [.int x] h=.ok (.int (ap9 x)) h:=rfl
theorem p18(h:MI.Hd):MI.aij (.int 10) (.int 18) h=.ok (.int 1000000000000000000) h:=by rw [MI.aij,aE (by decide)];rfl
theorem az8{i:Int}(c:0<=j/\j<=1000000/\i.natAbs<2^64):MI.aij (.int i) (.int j) h=.ok (.int (i^j.toNat)) h:=by rw [MI.aij,aE c]
end AT
namespace MI
open L2 SeqAt
end MI
namespace L2
end L2
namespace MI
open L2
end MI
namespace TPM
open PySem.W L2 HT MI
end TPM
namespace MI
open L2 TPM
end MI
namespace SHD
open L2 MI
def vm(fu:SF)(iy:SF)(az:SF):SE :=
 (sA (kj false 4 fu) (aj (sV 1) (aj (sV 2) (aj (s2 a8h (sV 3) (sC (.int 1))) (aj (sV 4) bz)))))
def a07(fu:SF)(iy:SF)(az:SF):SS :=
 (jg (n6 4 (sA (kj false 2 az) (aj (sV 0) (aj (sC (.int 10)) bz))))
 (jg (sIf (a8m (sT (s2 hEq (sV 2) (sC (.int 5)))) (sT (s2 gLt (sV 4) (sC (.int 2)))))
 (n6 4 (s2 jo (sV 4) (sC (.int 4))))
 sNx)
 (jg (sIf (a8m (sT (s2 hEq (sV 4) (sC (.int 9)))) (sT (s2 hEq (sA (kj false 2 az) (aj (sV 0) (aj (sC (.int 2)) bz))) (sC (.int 0)))))
 (o9 (sA ww (aj (sC (.str "row")) (aj (sA ww bz) bz))))
 sNx)
 (jg (sIf (sOr (sT (s2 hEq (sV 2) (sC (.int 1)))) (sOr (sT (s2 gLt (s2 gIx (sV 1) (sC (.int 0))) (sC (.int 1)))) (sT (s2 gLt (sV 4) (sC (.int 2))))))
 (o9 (sA ww (aj (sC (.str "one")) (aj (sA (kj false 3 iy) (aj (sV 0) (aj (sV 3) (aj (sA qu (aj (sV 3) bz)) bz)))) bz))))
 sNx)
 (jg (sIf (sT (s2 gLt (sV 4) (sC (.int 4))))
 (jg (aej (s2 a8h (s2 gIx (sV 1) (sC (.int 0))) (sC (.int 1))) (sV 1) (sC (.int 0)))
 (jg (n6 5 (sA (kj false 4 fu) (aj (sV 0) (aj (sV 1) (aj (s2 a8h (sV 2) (sC (.int 1))) (aj (sV 3) bz))))))
 (jg (sIf (sT (s2 hEq (sV 4) (sC (.int 2))))
 (o9 (sA ww (aj (sC (.str "many")) (aj (sV 5) bz))))
 sNx)
 (jg (n6 6 (sA (kj false 2 az) (aj (sV 0) (aj (sC (.int 5)) bz))))
 (o9 (sA ww (aj (sC (.str "times")) (aj (sV 5) (aj (sV 6) (aj (s2 jo (sV 6) (sA (kj false 2 az) (aj (sV 0) (aj (s2 a8h (sC (.int 5)) (sV 6)) bz)))) bz))))))))))
 sNx)
 (jg (n6 7 (sA abg (aj (s2 gIx (sV 1) (sC (.int 0))) (aj (s2 jo (sC (.int 1)) (sA (kj false 2 az) (aj (sV 0) (aj (s2 gIx (sZ (sA uz (aj (sC (.int 2)) (aj (sC (.int 3)) (aj (sC (.int 6)) bz))))) (sA (kj false 2 az) (aj (sV 0) (aj (sC (.int 3)) bz)))) bz)))) bz))))
 (jg (aej (s2 a8h (s2 gIx (sV 1) (sC (.int 0))) (sV 7)) (sV 1) (sC (.int 0)))
 (jg (n6 8 (sA zj (aj (sZ (m5 (sRg v4 (aj (sV 7) bz)) t1 (vm fu iy az) [0,1,2,3])) bz)))
 (o9 (sA ww (aj (s2 gIx (sZ (sA uz (aj (sC (.str "row")) (aj (sC (.str "either")) bz)))) (sA agg (aj (s2 gGt (sV 4) (sC (.int 6))) bz))) (aj (sV 8) bz))))))))))))
def a0i(di:SF)(az:SF):SE :=
 (sA (kj false 2 di) (aj (sV 1) (aj (sV 0) bz)))
def ym(di:SF)(az:SF):SE :=
 (sA (kj false 2 di) (aj (sV 1) (aj (s2 gIx (sV 2) (sC (.int 1))) bz)))
def yh(di:SF)(az:SF):SS :=
 (jg (sIf (sT (s2 hEq (s2 gIx (sV 1) (sC (.int 0))) (sC (.str "one"))))
 (o9 (sA ww (aj (sC (.str "one")) (aj (s2 gIx (s2 gIx (sV 1) (sC (.int 1))) (sA (kj false 2 az) (aj (sV 0) (aj (sA qu (aj (s2 gIx (sV 1) (sC (.int 1))) bz)) bz)))) bz))))
 sNx)
 (jg (sIf (sT (s2 hEq (s2 gIx (sV 1) (sC (.int 0))) (sC (.str "either"))))
 (jg (n6 2 (sA (kj false 2 az) (aj (sV 0) (aj (sA qu (aj (s2 gIx (sV 1) (sC (.int 1))) bz)) bz))))
 (o9 (sA ww (aj (sC (.str "either")) (aj (sV 2) (aj (sA (kj false 2 di) (aj (sV 0) (aj (s2 gIx (s2 gIx (sV 1) (sC (.int 1))) (sV 2)) bz))) bz))))))
 sNx)
 (jg (sIf (sT (s2 hEq (s2 gIx (sV 1) (sC (.int 0))) (sC (.str "row"))))
 (o9 (sA ww (aj (sC (.str "row")) (aj (sA zj (aj (sZ (m5 (sIt (s2 gIx (sV 1) (sC (.int 1)))) t1 (a0i di az) [0])) bz)) bz))))
 sNx)
 (jg (n6 3 (sC (.int 0)))
 (jg (n6 4 (sC (.int 3)))
 (jg (sIf (sT (s2 hEq (s2 gIx (sV 1) (sC (.int 0))) (sC (.str "times"))))
 (jg (n6 3 (s2 gIx (sV 1) (sC (.int 2))))
 (n6 4 (s2 gIx (sV 1) (sC (.int 3)))))
 sNx)
 (jg (n6 5 (s2 jo (sV 3) (sA (kj false 2 az) (aj (sV 0) (aj (s2 jo (s2 a8h (sV 4) (sV 3)) (sC (.int 1))) bz)))))
 (o9 (sA ww (aj (s2 gIx (sV 1) (sC (.int 0))) (aj (sA zj (aj (sZ (m5 (sRg v4 (aj (sV 5) bz)) t1 (ym di az) [0,1])) bz)) bz)))))))))))
def a4g(jb:SF):SE :=
 (sA (kj false 1 jb) (aj (sV 0) bz))
def a0t(jb:SF):SS :=
 (jg (sIf (sT (s2 hEq (s2 gIx (sV 0) (sC (.int 0))) (sC (.str "one"))))
 (o9 (s2 gIx (sV 0) (sC (.int 1))))
 sNx)
 (jg (sIf (sT (s2 hEq (s2 gIx (sV 0) (sC (.int 0))) (sC (.str "either"))))
 (o9 (sA (kj false 1 jb) (aj (s2 gIx (sV 0) (sC (.int 2))) bz)))
 sNx)
 (o9 (sMS a8e (sC (.str "")) (aj (sZ (m5 (sIt (s2 gIx (sV 0) (sC (.int 1)))) t1 (a4g jb) [])) bz)))))
def a0e:SS :=
 (o9 (a3o (sA sr (aj (sV 0) (aj (sC (.ty "int")) bz))) (ab9 (sA sr (aj (sV 0) (aj (sC (.ty "bool")) bz))))))
def qg(j4:SF):SE :=
 (sA (kj false 2 j4) (aj (sV 0) (aj (sV 1) bz)))
def uw(j4:SF):SS :=
 (jg (sIf (sOr (a8b (aas (sA sr (aj (sV 1) (aj (sC (.ty "tuple")) bz))))) (sT (s2 hNe (sA qu (aj (sV 1) bz)) (sA qu (aj (sV 0) bz)))))
 (o9 (sC .non))
 sNx)
 (jg (n6 2 (sZ (m5 (ad1 (sV 0) (sV 1)) (tN 2) (qg j4) [])))
 (jg (sIf (sT (s2 (gIn false) (sC .non) (sV 2)))
 (o9 (sC .non))
 sNx)
 (o9 (sMS a8e (sC (.str "")) (aj (sV 2) bz))))))
def a0f(jw:SF)(p6:SF)(j4:SF):SS :=
 (jg (sIf (sOr (a8b (aas (sA sr (aj (sV 1) (aj (sC (.ty "tuple")) bz))))) (sOr (sT (s2 gLt (sA qu (aj (sV 1) bz)) (sC (.int 2)))) (sOr (a8b (aas (sA sr (aj (s2 gIx (sV 1) (sC (.int 0))) (aj (sC (.ty "str")) bz))))) (sT (s2 hNe (s2 gIx (sV 1) (sC (.int 0))) (s2 gIx (sV 0) (sC (.int 0))))))))
 (o9 (sC .non))
 sNx)
 (jg (sIf (sT (s2 hEq (s2 gIx (sV 0) (sC (.int 0))) (sC (.str "either"))))
 (jg (sIf (sOr (sT (s2 hNe (sA qu (aj (sV 1) bz)) (sC (.int 3)))) (sOr (a8b (aas (sA (kj false 1 p6) (aj (s2 gIx (sV 1) (sC (.int 1))) bz)))) (a8b (sT (sCh gLe gLt (sC (.int 0)) (s2 gIx (sV 1) (sC (.int 1))) (sA qu (aj (s2 gIx (sV 0) (sC (.int 1))) bz)))))))
 (o9 (sC .non))
 sNx)
 (o9 (sA (kj false 2 j4) (aj (s2 gIx (s2 gIx (sV 0) (sC (.int 1))) (s2 gIx (sV 1) (sC (.int 1)))) (aj (s2 gIx (sV 1) (sC (.int 2))) bz)))))
 sNx)
 (jg (sIf (sT (s2 hNe (sA qu (aj (sV 1) bz)) (sC (.int 2))))
 (o9 (sC .non))
 sNx)
 (jg (sIf (sT (s2 hEq (s2 gIx (sV 0) (sC (.int 0))) (sC (.str "one"))))
 (jg (sIf (a8m (aas (sA sr (aj (s2 gIx (sV 1) (sC (.int 1))) (aj (sC (.ty "str")) bz)))) (a8m (sT (s2 hEq (sA qu (aj (s2 gIx (sV 1) (sC (.int 1))) bz)) (sC (.int 1)))) (sT (s2 (gIn false) (s2 gIx (sV 1) (sC (.int 1))) (s2 gIx (sV 0) (sC (.int 1)))))))
 (o9 (s2 gIx (sV 1) (sC (.int 1))))
 sNx)
 (o9 (sC .non)))
 sNx)
 (jg (sIf (sT (s2 hEq (s2 gIx (sV 0) (sC (.int 0))) (sC (.str "row"))))
 (o9 (sA (kj false 2 jw) (aj (s2 gIx (sV 0) (sC (.int 1))) (aj (s2 gIx (sV 1) (sC (.int 1))) bz))))
 sNx)
 (jg (sIf (a8b (aas (sA sr (aj (s2 gIx (sV 1) (sC (.int 1))) (aj (sC (.ty "tuple")) bz)))))
 (o9 (sC .non))
 sNx)
 (jg (sIf (a8m (sT (s2 hEq (s2 gIx (sV 0) (sC (.int 0))) (sC (.str "times")))) (a8b (sT (sCh gLe gLe (s2 gIx (sV 0) (sC (.int 2))) (sA qu (aj (s2 gIx (sV 1) (sC (.int 1))) bz)) (s2 gIx (sV 0) (sC (.int 3)))))))
 (o9 (sC .non))
 sNx)
 (o9 (sA (kj false 2 jw) (aj (sZ (s2 a1h (sZ (sA uz (aj (s2 gIx (sV 0) (sC (.int 1))) bz))) (sA qu (aj (s2 gIx (sV 1) (sC (.int 1))) bz)))) (aj (s2 gIx (sV 1) (sC (.int 1))) bz)))))))))))
end SHD
namespace SETA
open PySem.SetTable
def ahl(xs:Array Nat):Prop:=∀i j (hi:i<xs.size) (hj:j<xs.size),i<j->xs[i]<xs[j]
theorem arp(xs:Array Nat)(ri:ahl xs)(j:Nat):∀(fuel lo hi:Nat),hi-lo<=fuel->lo<=hi->hi<=xs.size->(∀i (h:i<xs.size),i<lo->xs[i]<j)->(∀i (h:i<xs.size),hi<=i->j<=xs[i])->
  lo<=below.go xs j fuel lo hi/\below.go xs j fuel lo hi<=hi/\(∀i (h:i<xs.size),i<below.go xs j fuel lo hi->xs[i]<j)/\∀i (h:i<xs.size),below.go xs j fuel lo hi<=i->j<=xs[i]:=by
 intro fuel
 induction fuel with
 |zero =>
  intro lo hi h1 h2 h3 a b
  have:lo=hi:=by omega
  subst this;exact ⟨aA _,aA _,a,b⟩
 |succ fuel ih =>
  intro lo hi h1 h2 h3 a b
  unfold below.go
  split
  .rename_i c;have hm:(lo+hi) / 2<xs.size:=by omega
   have e:xs.getD ((lo+hi) / 2) j=xs[(lo+hi) / 2]:=by simp [Array.getD,hm]
   dsimp only;rw [e]
   split
   .rename_i q;have r:=ih ((lo+hi) / 2+1) hi (by omega) (by omega) h3 (λi h z=>by
     by_cases y:i=(lo+hi) / 2
     .subst y;exact q
     .exact Nat.lt_trans (ri i _ h hm (by omega)) q) b
    exact ⟨by omega,r.2.1,r.2.2⟩
   .rename_i q;have r:=ih lo ((lo+hi) / 2) (by omega) (by omega) (by omega) a (λi h z=>by
     by_cases y:i=(lo+hi) / 2
     .subst y;omega
     .have:=ri _ i hm h (by omega);omega)
    exact ⟨r.1,by omega,r.2.2⟩
  .have:lo=hi:=by omega
   subst this;exact ⟨aA _,aA _,a,b⟩
theorem a0u(ri:ahl xs)(j:Nat):below xs j<=xs.size/\(∀i (h:i<xs.size),i<below xs j->xs[i]<j)/\∀i (h:i<xs.size),below xs j<=i->j<=xs[i]:=by
 have:=arp xs ri j xs.size 0 xs.size (by omega) (by omega) (aA _) (λi _ z=>absurd z (fL i)) λi h z=>absurd h (by omega)
 exact ⟨this.2.1,this.2.2⟩
theorem below_at(ri:ahl xs)(hk:k<xs.size):below xs xs[k]=k:=by
 obtain ⟨h1,h2,h3⟩:=a0u ri xs[k]
 apply dZ
 intro z
 rcases hJ z with c|c
 .have:=h3 (below xs xs[k]) (by omega) (aA _)
  have:=ri (below xs xs[k]) k (by omega) hk c
  omega
 .have:=h2 k hk c
  omega
theorem agl(ri:ahl xs)(hk:k<xs.size):below xs (xs[k]+1)=k+1:=by
 obtain ⟨h1,h2,h3⟩:=a0u ri (xs[k]+1)
 apply dZ
 intro z
 rcases hJ z with c|c
 .have:=h3 k hk (by omega)
  omega
 .have:=h2 (k+1) (by omega) c
  have:=ri k (k+1) hk (by omega) (by omega)
  omega
theorem arq(ri:ahl xs):below xs 0=0:=by
 obtain ⟨h1,h2,h3⟩:=a0u ri 0
 apply dZ
 intro z
 have:=h2 0 (by omega) (by omega)
 omega
structure Gd (t:SetTable):Prop where
 ri:ahl t.place
 dm:t.dummies = #[]
theorem agm:ahl #[]:=λi j hi=>absurd hi (by simp)
theorem ane(f m:Nat)(l:Bool):Gd (.fresh f m l):=⟨agm,rfl⟩
theorem agn(n:Nat):ahl (Array.range n):=λi j hi hj h=>by simpa using h
theorem a7e{l:List Nat}(h:l.Pairwise (· < ·)):ahl l.toArray:=λi j hi hj c=>by
 have:=cP.mp h i j (by simpa using hi) (by simpa using hj) c
 simpa using this
theorem abp(h:ahl xs):xs.toList.Pairwise (· < ·):=cP.mpr λi j hi hj c=>by
 have:=h i j (by simpa using hi) (by simpa using hj) c
 simpa using this
theorem a8r(t:SetTable)(n:Nat):Gd (t.standIn n):=⟨agn n,rfl⟩
theorem abq(g:Gd t)(n:Nat):Gd (t.orStandIn n):=by
 unfold SetTable.orStandIn
 split
 .exact g
 .exact a8r t n
theorem a7f(j:Nat):has #[] j=false:=by simp [has]
theorem ago(g:Gd t)(h:t.slot j=.empty):∀k (hk:k<t.place.size),t.place[k]≠j:=λk hk e=>by
 subst e;unfold SetTable.slot at h;simp only [below_at g.ri hk] at h;rw [aE (by simp [hk])] at h
 cases h
theorem anf(g:Gd t):∀(fuel:Nat) (p:Probe) (j:Nat) (d:Option Nat),p.dummy=none->SetTable.probe.go t ha h fuel p=some (.empty j d)->t.slot j=.empty/\d=none:=by
 intro fuel
 induction fuel with
 |zero=>intro p j d _ z;simp [SetTable.probe.go] at z
 |succ fuel ih =>
  intro p j d hp z
  unfold SetTable.probe.go at z
  cases e:t.slot p.j with
  |empty =>
   rw [e] at z;simp only [i9,Met.empty.injEq] at z;obtain ⟨rfl,rfl⟩:=z;exact ⟨e,hp⟩
  |dummy =>
   exfalso
   unfold SetTable.slot at e;rw [g.dm,a7f] at e;dsimp only at e
   split at e<;>simp at e
  |live i =>
   rw [e] at z;dsimp only at z
   split at z
   .cases z
   .refine ih _ j d ?_ z;unfold SetTable.advance
    split
    .exact hp
    .exact hp
theorem a7g(g:Gd t)(e:t.freeSlot h=some (j,b)):(∀k (hk:k<t.place.size),t.place[k]≠j)/\b=false:=by
 unfold SetTable.freeSlot at e
 split at e
 .rename_i j' d q;obtain ⟨h1,h2⟩:=anf g _ _ _ _ rfl q;subst h2;simp only [iD,Option.isSome_none,i9,Prod.mk.injEq] at e;obtain ⟨rfl,rfl⟩:=e;exact ⟨ago g h1,rfl⟩
 .cases e
theorem ad5(ri:ahl xs)(h:∀k (hk:k<xs.size),xs[k]≠j):ahl (SetTable.insertAt xs (below xs j) j):=by
 obtain ⟨h1,h2,h3⟩:=a0u ri j;have e:(SetTable.insertAt xs (below xs j) j)=(xs.toList.take (below xs j)++j::xs.toList.drop (below xs j)).toArray:=by
  exact Array.ext' ((SetTable.toList_insertAt _ _ _).trans (by simp))
 rw [e];refine a7e ?_;have rl:=abp ri;rw [List.pairwise_append];refine ⟨rl.sublist (i6 _ _),List.pairwise_cons.mpr ⟨λa ha=>?_,rl.sublist (List.drop_sublist _ _)⟩,λa ha b hb=>?_⟩
 .obtain ⟨i,hi,rfl⟩:=fg.mp ha;rw [List.getElem_drop];rw [bN,aO] at hi;have h4:=h3 (below xs j+i) (by omega) (by omega)
  have h5:=h (below xs j+i) (by omega)
  rw [gI];omega
 .obtain ⟨i,hi,rfl⟩:=fg.mp ha;rw [List.getElem_take];rw [bg,aO] at hi;have h4:=h2 i (by omega) (by omega)
  rw [gI]
  rcases aC.mp hb with rfl|hb
  .exact h4
  .obtain ⟨k,hk,rfl⟩:=fg.mp hb;rw [List.getElem_drop];rw [bN,aO] at hk;have h6:=h3 (below xs j+k) (by omega) (by omega)
   rw [gI];omega
theorem apa(g:Gd t)(h:∀k (hk:k<t.place.size),t.place[k]≠j):Gd (t.put j).1:=by
 refine ⟨ad5 g.ri h,?_⟩;show (if has t.dummies j=true then _ else t.dummies) = #[]
 rw [g.dm,a7f];rfl
theorem ajb(g:Gd t)(es:Array (Int×Value))(h:Int)(x:Value):Gd (layNew t es h x).2.1/\(layNew t es h x).2.2.1=false:=by
 unfold layNew
 split
 .rename_i slot wd e;obtain ⟨h1,h2⟩:=a7g g e;exact ⟨abq (apa g h1) _,h2⟩
 .exact ⟨a8r _ _,rfl⟩
theorem a9n{mask f m:Nat}{t:SetTable}(e:SetTable.laid mask f m l p hs=some (t,o)):Gd t/\t.led=l:=by
 unfold SetTable.laid at e
 cases q:layClean mask hs with
 |none=>rw [q] at e;cases e
 |some owner =>
  rw [q] at e;simp only [Option.bind_eq_bind,iE,Option.pure_def,i9,Prod.mk.injEq] at e;obtain ⟨rfl,rfl⟩:=e;refine ⟨⟨a7e ?_,rfl⟩,rfl⟩;have:∀l:List Nat,l.Pairwise (· < ·)->((l.filterMap λj=>(owner.getD j none).map (j, ·)).map (·.1)).Pairwise (· < ·):=λl hl=>by
   have sub:((l.filterMap λj=>(owner.getD j none).map (j, ·)).map (·.1)).Sublist l:=by
    clear hl
    induction l with
    |nil=>exact .slnil
    |cons a l ih =>
     cases q:owner.getD a none with
     |none =>
      rw [List.filterMap_cons_none (by rw [q];rfl)]
      exact .cons _ ih
     |some b =>
      rw [List.filterMap_cons_some (b:=(a,b)) (by rw [q];rfl),aT]
      exact .cons₂ _ ih
   exact hl.sublist sub
  exact this _ List.pairwise_lt_range
theorem a9o(t:SetTable)(n:Nat):(t.orStandIn n).led=t.led:=by
 unfold SetTable.orStandIn
 split<;>rfl
theorem agp(t:SetTable)(es:Array (Int×Value))(h:Int)(x:Value):(layNew t es h x).2.1.led=t.led:=by
 unfold layNew
 split
 .exact a9o _ _
 .rfl
theorem ajc(t:SetTable)(es:Array (Int×Value))(n:Nat):(relayAll t es n).2.1.led=t.led:=by
 unfold relayAll
 split
 .rename_i t' o e;dsimp only
  split
  .exact (a9n e).2
  .rfl
 .rfl
end SETA
namespace SETH
def it:Nat->Nat->Nat
 |0,x=>x
 |n+1,x=>it n (5*x+1)
theorem ajd(m:Nat):∀(n x:Nat),it (n+m) x=it m (it n x)
 |0,x=>by rw [hU];rfl
 |n+1,x=>by rw [show n+1+m=(n+m)+1 by omega];exact ajd m n _
theorem apb:∀k:Nat,∃c,∀x,it (2^k) x=(4*(2^k*(2*c+1))+1)*x+2^k*(2*c+1)
 |0=>⟨0,λx=>by show 5*x+1=_;omega⟩
 |k+1=>by
  obtain ⟨c,h⟩:=apb k;refine ⟨2*c*(2^k*(2*c+1))+c+2^k*(2*c+1),λx=>?_⟩;have e:2^(k+1)=2^k+2^k:=by rw [fH];omega
  rw [e,ajd,h,h]
  generalize 2^k=P
  grind
theorem full:∀(k x y:Nat),∃n,n<2^k/\it n x%2^k=y%2^k
 |0,x,y=>⟨0,by decide,by rw [Nat.pow_zero,Nat.mod_one,Nat.mod_one]⟩
 |k+1,x,y=>by
  obtain ⟨n,hn,e⟩:=full k x y;obtain ⟨c,h⟩:=apb k;have hp:0<2^k:=iT (by decide)
  rw [fH]
  by_cases q:it n x / 2^k%2=y / 2^k%2
  .exact ⟨n,by omega,by rw [iU,iU,e,q]⟩
  .refine ⟨n+2^k,by omega,?_⟩
   rw [ajd,h]
   generalize 2^k=P at *
   generalize it n x=z at *
   have:(4*(P*(2*c+1))+1)*z+P*(2*c+1)=(z+P)+P*2*(2*(2*c+1)*z+c):=by grind
   rw [this,Nat.add_mul_mod_self_left,iU,iU,Nat.add_mod_right,e,Nat.add_div_right _ hp]
   congr 2
   omega
def im(M:Nat):Nat->Nat->Nat
 |0,x=>x
 |n+1,x=>im M n ((x*5+1)%M)
theorem avx(M:Nat):∀(n x:Nat),im M n x%M=it n x%M
 |0,x=>rfl
 |n+1,x=>by
  show im M n _%M=it n _%M;rw [avx M n];have:∀n a b,a%M=b%M->it n a%M=it n b%M:=by
   intro n
   induction n with
   |zero=>exact λa b h=>h
   |succ n ih=>exact λa b h=>ih _ _ (by rw [Nat.add_mod,Nat.mul_mod,h,<-Nat.mul_mod,<-Nat.add_mod])
  exact this n _ _ (by rw [Nat.mod_mod,iM])
theorem avy(hM:0<M):∀(n x:Nat),x<M->im M n x<M
 |0,x,h=>h
 |n+1,x,h=>avy hM n _ (fI _ hM)
theorem ars(hx:x<2^k)(hy:y<2^k):∃n,n<2^k/\im (2^k) n x=y:=by
 obtain ⟨n,hn,e⟩:=full k x y;refine ⟨n,hn,?_⟩;rw [<-avx,Nat.mod_eq_of_lt hy,Nat.mod_eq_of_lt (avy (by omega) n x hx)] at e
 exact e
open PySem.SetTable
def ls(mask:Nat):Nat->Nat×Nat->Nat×Nat
 |0,x=>x
 |n+1,x=>ls mask n (leap mask x.1 x.2)
theorem apc(mask m:Nat):∀(n:Nat) (x:Nat×Nat),ls mask (n+m) x=ls mask m (ls mask n x)
 |0,x=>by rw [hU];rfl
 |n+1,x=>by rw [show n+1+m=(n+m)+1 by omega];exact apc mask m n _
theorem a8s(mask:Nat):∀(n:Nat) (x:Nat×Nat),(ls mask n x).2=x.2 / 32^n
 |0,x=>by rw [Nat.pow_zero,Nat.div_one];rfl
 |n+1,x=>by
  show (ls mask n _).2=_;rw [a8s mask n,fH,iM,<-Nat.div_div_eq_div_mul];rfl
theorem avz(mask:Nat):∀(n:Nat) (x:Nat×Nat),x.1<=mask->(ls mask n x).1<=mask
 |0,x,h=>h
 |n+1,x,h=>avz mask n _ (dG (fI _ (dF _)))
theorem aw0(mask:Nat):∀(n i:Nat),ls mask n (i,0)=(im (mask+1) n i,0)
 |0,i=>rfl
 |n+1,i=>by
  show ls mask n (leap mask i 0)=(im (mask+1) n _,0);rw [<-aw0 mask n];rfl
theorem hit{mask k i p y:Nat}(hk:mask+1=2^k)(hi:i<=mask)(hp:p<2^64)(hy:y<=mask):∃m,m<mask+14/\(ls mask m (i,p)).1=y:=by
 have e:ls mask 13 (i,p)=((ls mask 13 (i,p)).1,0):=by
  refine Prod.ext rfl ?_;rw [a8s];show p / 32^13=0;exact Nat.div_eq_of_lt (by omega)
 have h13:=avz mask 13 (i,p) hi;obtain ⟨n,hn,en⟩:=ars (k:=k) (x:=(ls mask 13 (i,p)).1) (y:=y) (by omega) (by omega)
 refine ⟨13+n,by omega,?_⟩
 rw [apc,e,aw0];show im (mask+1) n _=y;rw [hk];exact en
end SETH
namespace SETH
open PySem.SetTable SETA
theorem a7h(mask i:Nat):i<=runEnd mask i:=by unfold runEnd;split<;>omega
theorem a7i{mask i:Nat}(h:i<=mask):runEnd mask i<=mask:=by unfold runEnd;split<;>omega
theorem af0(mask i:Nat):runEnd mask i-i<=9:=by unfold runEnd;split<;>omega
theorem abr{mask:Nat}{owner:Array (Option Nat)}:∀(fuel i p m:Nat),m<fuel->i<=mask->owner.getD (ls mask m (i,p)).1 (some 0)=none->∃j,layClean.free mask owner fuel i p=some j/\j<=mask/\owner.getD j (some 0)=none
 |0,i,p,m,h,_,_=>absurd h (fL _)
 |fuel+1,i,p,m,h,hi,e=>by
  unfold layClean.free;have ge:=a7h mask i;have le:=a7i hi
  split
  .rename_i k hk;refine ⟨_,rfl,?_,?_⟩
   .have:=List.mem_of_find?_eq_some hk
    rw [bE] at this;omega
   .have:=List.find?_some hk
    exact hV.mp this
  .rename_i hk
   cases m with
   |zero =>
    have:=List.find?_eq_none.mp hk 0 (bE.mpr (by omega))
    exact absurd (hV.mpr e) this
   |succ m=>exact abr fuel _ _ m (by omega) (dG (fI _ (dF _))) e
theorem a5v{t:SetTable}{p:Probe}(h:p.more > 0):t.advance p={p with j:=p.j+1,more:=p.more-1}:=by unfold advance;rw [aE h]
theorem a5w{t:SetTable}{p:Probe}(h:p.more=0):t.advance p={p with j:=(leap t.mask p.i p.perturb).1,more:=runEnd t.mask (leap t.mask p.i p.perturb).1-(leap t.mask p.i p.perturb).1,i:=(leap t.mask p.i p.perturb).1,perturb:=(leap t.mask p.i p.perturb).2}:=by unfold advance;rw [aS (by omega)]
theorem ad6{t:SetTable}:∀(fuel m:Nat) (p:Probe),p.more+10*m+1<fuel->t.slot (ls t.mask (m+1) (p.i,p.perturb)).1=.empty->∃j d,probe.go t (λ_=>h+1) h fuel p=some (.empty j d)
 |0,m,p,hf,_=>absurd hf (fL _)
 |fuel+1,m,p,hf,e=>by
  have ne:(h+1 == h)=false:=by simpa using (by omega:h+1≠h)
  have next:∀d,∃j d',probe.go t (λ_=>h+1) h fuel (t.advance {p with dummy:=d})=some (.empty j d'):=λd=>by
   by_cases hm:p.more > 0
   .rw [a5v (by exact hm)]
    exact ad6 fuel m _ (by show p.more-1+10*m+1<fuel;omega) e
   .rw [a5w (by show p.more=0;omega)]
    cases m with
    |zero =>
     cases fuel with
     |zero=>omega
     |succ fuel =>
      have e:t.slot (leap t.mask p.i p.perturb).1=.empty:=e;unfold probe.go;simp only [e];exact ⟨_,_,rfl⟩
    |succ m =>
     have:=af0 t.mask (leap t.mask p.i p.perturb).1
     exact ad6 fuel m _ (by show runEnd t.mask (leap t.mask p.i p.perturb).1-(leap t.mask p.i p.perturb).1+10*m+1<fuel;omega) e
  unfold probe.go
  split
  .exact ⟨_,_,rfl⟩
  .exact next _
  .rw [ne];exact next p.dummy
theorem aje{t:SetTable}(hd:t.dummies = #[])(hy:∀k (hk:k<t.place.size),t.place[k]≠y):t.slot y=.empty:=by
 unfold slot;dsimp only;rw [aS,hd,a7f]
 .rfl
 .intro c
  have c:t.place[below t.place y]? = some y:=by simpa using c
  obtain ⟨hk,e⟩:=gW.mp c;exact hy _ hk e
theorem a9p{t:SetTable}(hk:t.mask+1=2^k)(hd:t.dummies = #[])(hy:y<=t.mask)(fr:∀k (hk:k<t.place.size),t.place[k]≠y)(h:Int):∃r,t.freeSlot h=some r:=by
 have sl:=aje hd fr;have hi:bits h%(t.mask+1)<=t.mask:=dG (fI _ (dF _));have hb:bits h<2^64:=by unfold bits;omega
 obtain ⟨m,hm,e⟩:=hit hk hi hb hy;have r9:=af0 t.mask (bits h%(t.mask+1));have:∃j d,t.probe (λ_=>h+1) h (t.probeStart h)=some (.empty j d):=by
  unfold probe turns
  cases m with
  |zero =>
   have e:bits h%(t.mask+1)=y:=e;rw [show 10*(t.mask+15)=(10*(t.mask+15)-1)+1 by omega]
   unfold probe.go probeStart;simp only [e,sl];exact ⟨_,_,rfl⟩
  |succ m=>exact ad6 _ m _ (by show runEnd t.mask (bits h%(t.mask+1))-bits h%(t.mask+1)+10*m+1<_;omega) (by rw [<-e] at sl;exact sl)
 obtain ⟨j,d,x⟩:=this;unfold freeSlot;rw [x];exact ⟨_,rfl⟩
theorem ajf:∀l:List (Option Nat),(l.filterMap id).length<l.length->∃i,∃h:i<l.length,l[i]=none
 |[],h=>absurd h (bC _)
 |none::l,_=>⟨0,dF _,rfl⟩
 |some x::l,h=>by
  obtain ⟨i,hi,e⟩:=ajf l (by simpa using h)
  exact ⟨i+1,Nat.succ_lt_succ hi,e⟩
theorem af1(k:Nat):∀(l:List (Option Nat)) (i:Nat) (h:i<l.length),l[i]=none->((l.set i (some k)).filterMap id).Perm (k::l.filterMap id)
 |x::l,0,_,e=>by
  have e:x=none:=e;subst e;simp
 |x::l,i+1,h,e=>by
  have ih:=af1 k l i (fW h) e
  cases x with
  |none=>simpa using ih
  |some x =>
   simp only [dQ,cE,id];exact (ih.cons x).trans (List.Perm.swap ..)
structure Own (mask n:Nat) (o:Array (Option Nat)):Prop where
 size:o.size=mask+1
 all:(o.toList.filterMap id).Perm (List.range n)
theorem az9(mask:Nat):Own mask 0 (Array.replicate (mask+1) none) where
 size:=by simp
 all:=by simp
theorem Own.free{mask n:Nat}{o:Array (Option Nat)}(w:Own mask n o)(hn:n<=mask):∃y,y<=mask/\o.getD y (some 0)=none:=by
 have:=w.all.length_eq
 rw [aF] at this;obtain ⟨i,hi,e⟩:=ajf o.toList (by rw [this,aO,w.size];omega)
 have hs:i<o.size:=by simpa using hi
 refine ⟨i,by have:=w.size;omega,?_⟩
 simp only [Array.getD,hs,dif_pos];simpa using e
theorem Own.put{mask n j:Nat}{o:Array (Option Nat)}(w:Own mask n o)(hj:j<=mask)(e:o.getD j (some 0)=none):Own mask (n+1) (o.setIfInBounds j (some n)) where
 size:=by rw [Array.size_setIfInBounds];exact w.size
 all:=by
  have hs:j<o.size:=by have:=w.size;omega
  have e:o.toList[j]'(by simpa using hs)=none:=by
   simp only [Array.getD,hs,dif_pos] at e;simpa using e
  rw [Array.toList_setIfInBounds,iK];exact (af1 n _ _ _ e).trans ((w.all.cons n).trans (List.perm_append_singleton n _).symm)
theorem af2{mask k:Nat}(hk:mask+1=2^k)
  (hF:∀o n h j,layClean.free mask o (turns mask) (bits h%(mask+1)) (bits h)=some j->F (some (o,n)) h=some (o.setIfInBounds j (some n),n+1)) :
  ∀(hs:List Int) (o:Array (Option Nat)) (n:Nat),Own mask n o->n+hs.length<=mask+1->∃o',hs.foldl F (some (o,n))=some (o',n+hs.length)/\Own mask (n+hs.length) o'
 |[],o,n,w,_=>⟨o,rfl,w⟩
 |h::hs,o,n,w,le=>by
  rw [aH] at le ⊢;obtain ⟨y,hy,e⟩:=w.free (by omega)
  have hi:bits h%(mask+1)<=mask:=dG (fI _ (dF _));obtain ⟨m,hm,em⟩:=hit hk hi (p:=bits h) (by unfold bits;omega) hy
  obtain ⟨j,ej,hj,fj⟩:=abr (turns mask) (bits h%(mask+1)) (bits h) m (by unfold turns;omega) hi (by rw [em];exact e)
  obtain ⟨o',eo,wo⟩:=af2 hk hF hs _ (n+1) (w.put hj fj) (by omega)
  refine ⟨o',?_,by rw [show n+(hs.length+1)=n+1+hs.length by omega];exact wo⟩
  rw [dH,hF o n h j ej,eo,show n+(hs.length+1)=n+1+hs.length by omega]
theorem ang{mask k:Nat}(hk:mask+1=2^k)(hs:Array Int)(le:hs.size<=mask+1)
  (hF:∀o n h j,layClean.free mask o (turns mask) (bits h%(mask+1)) (bits h)=some j->F (some (o,n)) h=some (o.setIfInBounds j (some n),n+1)) :
  ∃o,(hs.toList.foldl F (some (Array.replicate (mask+1) none,0))).map (·.1)=some o/\Own mask hs.size o:=by
 obtain ⟨o,e,w⟩:=af2 hk hF hs.toList _ 0 (az9 mask) (by simpa using le)
 rw [e];exact ⟨o,rfl,by simpa using w⟩
theorem agq{mask k:Nat}(hk:mask+1=2^k)(hs:Array Int)(le:hs.size<=mask+1):∃o,layClean mask hs=some o/\Own mask hs.size o:=by
 unfold layClean;rw [<-Array.foldl_toList];refine ang hk hs le λo n h j ej=>?_;simp only [Option.bind_eq_bind,iE,ej];rfl
theorem anh{mask n:Nat}{o:Array (Option Nat)}(w:Own mask n o):((List.range (mask+1)).filterMap λj=>(o.getD j none).map (j, ·)).map (·.2)=o.toList.filterMap id:=by
 have e:o.toList=(List.range (mask+1)).map λj=>o.getD j none:=by
  refine List.ext_getElem (by simp [w.size]) λi h1 h2=>?_
  have hs:i<o.size:=by simpa using h1
  simp [Array.getD,hs]
 rw [e,eI,List.map_filterMap]
 congr 1
 funext j
 show _=o.getD j none
 cases o.getD j none<;>rfl
theorem a7j{mask k f m:Nat}(hk:mask+1=2^k)(hs:Array Int)(le:hs.size<=mask+1):∃t o,laid mask f m l p hs=some (t,o)/\t.mask=mask/\t.dummies = #[]/\t.plain=p/\t.place.size=hs.size/\(∀i (h:i<t.place.size),t.place[i]<=mask)/\o.toList.Perm (List.range hs.size):=by
 obtain ⟨o,e,w⟩:=agq hk hs le;unfold laid;rw [e];have ls:=anh w;have len:((List.range (mask+1)).filterMap λj=>(o.getD j none).map (j, ·)).length=hs.size:=by
  have:=w.all.length_eq
  rw [<-ls,ax,aF] at this;exact this
 refine ⟨_,_,rfl,rfl,rfl,rfl,by simpa using len,λi hi=>?_,?_⟩
 .have hm:=ib hi;simp only [List.mem_toArray,b6,gZ,bE] at hm;obtain ⟨⟨a,b⟩,⟨j,hj,x⟩,y⟩:=hm
  cases g:o.getD j none with
  |none=>rw [g] at x;cases x
  |some z =>
   rw [g] at x;cases x
   exact dG (y ▸ hj)
 .show List.Perm (List.map _ _) _;exact (ls ▸ w.all)
theorem af3(n:Nat):∀(fuel a:Nat),n<2^(a+fuel)->∃b,a<=b/\sizeAbove.go n fuel (2^a)=2^b/\n<2^b
 |0,a,h=>⟨a,aA _,rfl,h⟩
 |fuel+1,a,h=>by
  unfold sizeAbove.go
  split
  .obtain ⟨b,h1,h2,h3⟩:=af3 n fuel (a+1) (by rw [show a+1+fuel=a+(fuel+1) by omega];exact h)
   exact ⟨b,by omega,h2,h3⟩
  .exact ⟨a,aA _,rfl,by omega⟩
theorem above(h:n<2^67):∃b,3<=b/\sizeAbove n=2^b/\n<2^b:=af3 n 64 3 h
theorem gap:∀(l:List Nat) (a:Nat),l.Pairwise (· < ·)->(∀x∈l,a<=x)->∃y,a<=y/\y<=a+l.length/\y∉l
 |[],a,_,_=>⟨a,aA _,aA _,bA⟩
 |x::l,a,p,g=>by
  obtain ⟨p1,p2⟩:=List.pairwise_cons.mp p;have gx:=g x (aI ..);rw [aH]
  by_cases e:x=a
  .obtain ⟨y,h1,h2,h3⟩:=gap l (a+1) p2 λz hz=>by have:=p1 z hz;omega
   exact ⟨y,by omega,by omega,λc=>(aC.mp c).elim (λc=>by omega) h3⟩
  .exact ⟨a,aA _,by omega,λc=>(aC.mp c).elim (λc=>e c.symm) λc=>by have:=p1 a c;omega⟩
structure Gs (t:SetTable):Prop where
 gd:Gd t
 pow:∃k,t.mask+1=2^k
 big:7<=t.mask
 le:∀i (h:i<t.place.size),t.place[i]<=t.mask
 plain:t.plain=true
theorem ani(f m:Nat)(l:Bool):Gs (.fresh f m l):=⟨ane f m l,⟨3,rfl⟩,aA _,λi h=>absurd h (fL _),rfl⟩
theorem a2b(g:Gd t):t.fill=t.place.size:=by unfold fill;rw [g.dm];rfl
theorem a8t{t:SetTable}{p:Probe}(h:p.j+p.more<=t.mask):(t.advance p).j+(t.advance p).more<=t.mask:=by
 by_cases hm:p.more > 0
 .rw [a5v hm];show p.j+1+(p.more-1)<=_;omega
 .rw [a5w (by omega)]
  have h1:(leap t.mask p.i p.perturb).1<=t.mask:=dG (fI _ (dF _));have h2:=a7i h1;have h3:=a7h t.mask (leap t.mask p.i p.perturb).1;show (leap t.mask p.i p.perturb).1+(runEnd t.mask (leap t.mask p.i p.perturb).1-(leap t.mask p.i p.perturb).1)<=_;omega
theorem art{t:SetTable}:∀(fuel:Nat) (p:Probe) (j:Nat) (d:Option Nat),p.j+p.more<=t.mask->probe.go t ha h fuel p=some (.empty j d)->j<=t.mask
 |0,p,j,d,_,e=>by cases e
 |fuel+1,p,j,d,hp,e=>by
  unfold probe.go at e
  split at e
  .cases e
   omega
  .exact art fuel _ j d (a8t (p:={p with dummy:=some p.j}) hp) e
  .split at e
   .cases e
   .exact art fuel _ j d (a8t hp) e
theorem aru{t:SetTable}(e:t.freeSlot h=some (j,b))(hb:b=false):j<=t.mask:=by
 unfold freeSlot at e
 split at e
 .rename_i j' d x;have:=art _ _ j' d (by
   have h1:bits h%(t.mask+1)<=t.mask:=dG (fI _ (dF _));have h2:=a7i h1;have h3:=a7h t.mask (bits h%(t.mask+1));show bits h%(t.mask+1)+(runEnd t.mask (bits h%(t.mask+1))-bits h%(t.mask+1))<=t.mask;omega) x
  cases d with
  |none=>cases e;exact this
  |some d=>cases e;cases hb
 .cases e
theorem apd{xs:Array Nat}(h:z∈xs.extract a b):z∈xs:=by
 obtain ⟨i,hi,e⟩:=gB.mp h;rw [Array.getElem_extract] at e;exact e ▸ ib _
theorem a7k{α:Type}(xs:Array α)(p:Nat)(x:α)(hp:p<=xs.size):(insertAt xs p x).size=xs.size+1:=by
 simp [insertAt]
 omega
theorem ajg(g:Gs t)(es:Array (Int×Value))(hs:t.place.size=es.size)(rest:t.fill*5<t.mask*3)(h:Int)(x:Value) :
  Gs (layNew t es h x).2.1/\(layNew t es h x).2.2.2=false/\(layNew t es h x).2.1.fits (layNew t es h x).1.size=true/\(layNew t es h x).2.1.mask=t.mask/\(layNew t es h x).2.1.place.size=es.size+1:=by
 have big:=g.big;have fl:=a2b g.gd;obtain ⟨k,hk⟩:=g.pow;obtain ⟨y,_,hy,ny⟩:=gap t.place.toList 0 (abp g.gd.ri) λ_ _=>bq _;rw [aO] at hy;obtain ⟨⟨j,b⟩,e⟩:=a9p hk g.gd.dm (y:=y) (by omega) (λi hi c=>ny (by rw [<-c];simp)) h
 obtain ⟨f1,f2⟩:=a7g g.gd e;have hj:=aru e f2;have bl:=(a0u g.gd.ri j).1;have sz1:(t.put j).1.place.size=es.size+1:=by
  show (insertAt t.place _ j).size=_;rw [a7k _ _ _ bl,hs]
 have sz2:(insertAt es (t.put j).2 (h,x)).size=es.size+1:=a7k _ _ _ (by show below t.place j<=_;omega)
 have gp:=apa g.gd f1;have ft:(t.put j).1.fits (insertAt es (t.put j).2 (h,x)).size=true:=by
  unfold fits;rw [a2b gp,sz1,sz2];have:es.size+1<=(t.put j).1.mask:=by show _<=t.mask;omega
  simp [this]
 have pl:∀z∈(t.put j).1.place,z<=t.mask:=λz hz=>by
  have hz:z∈insertAt t.place (below t.place j) j:=hz;simp only [insertAt,Array.mem_append,Array.mem_push] at hz
  rcases hz with (hz|hz)|hz
  .obtain ⟨i,hi,e⟩:=gB.mp (apd hz);exact e ▸ g.le i hi
  .omega
  .obtain ⟨i,hi,e⟩:=gB.mp (apd hz);exact e ▸ g.le i hi
 have gs:Gs (t.put j).1:=⟨gp,g.pow,g.big,λi hi=>pl _ (ib hi),g.plain⟩;have eq:layNew t es h x=(insertAt es (t.put j).2 (h,x),(t.put j).1,b,false):=by
  unfold layNew;rw [e];simp only [ft,orStandIn,db,eV]
 rw [eq];exact ⟨gs,rfl,ft,rfl,sz1⟩
theorem af4{es:Array (Int×Value)}:∀l:List Nat,(∀x∈l,x<es.size)->(l.filterMap (es[·]?)).length=l.length
 |[],_=>rfl
 |x::l,h=>by
  rw [cE,cC (h x (aI ..))];exact ah (·+1) (af4 l λz hz=>h z (ay _ hz))
theorem anj(g:Gs t)(es:Array (Int×Value))(hn:n<2^67)(big:es.size*2<=n)(pos:0<es.size) :
  Gs (relayAll t es n).2.1/\(relayAll t es n).2.2=false/\(relayAll t es n).2.1.fits (relayAll t es n).1.size=true/\(relayAll t es n).2.1.fill*5<(relayAll t es n).2.1.mask*3:=by
 obtain ⟨b,h3,eb,lb⟩:=above hn;have p8:2^3<=2^b:=dA (by decide) h3
 have hk:sizeAbove n-1+1=2^b:=by omega
 obtain ⟨t',o,e,hm,hd,hp,hs,hl,ho⟩:=a7j (f:=t.finger) (m:=t.movedTo (sizeAbove n-1)) (l:=t.led) (p:=t.plain) hk (es.map (·.1)) (by rw [fv];omega)
 rw [fv] at hs ho;have gd':=(a9n e).1;have cov:coversAll o es.size=true:=List.isPerm_iff.mpr ho;have sz:(o.filterMap (es[·]?)).size=es.size:=by
  rw [<-aO,dJ,af4 _ λx hx=>bE.mp (ho.mem_iff.mp hx),ho.length_eq,aF]
 have fl:=a2b gd';have ft:t'.fits (o.filterMap (es[·]?)).size=true:=by
  unfold fits;rw [fl,sz,hs];have:es.size<=t'.mask:=by omega
  simp [this]
 have eq:relayAll t es n=(o.filterMap (es[·]?),t',false):=by
  unfold relayAll relaid;rw [e];simp only [cov,ft,eW,db]
 rw [eq];exact ⟨⟨gd',⟨b,by rw [hm];exact hk⟩,by rw [hm];omega,λi hi=>by rw [hm];exact hl i hi,hp.trans g.plain⟩,rfl,ft,by show t'.fill*5<t'.mask*3;omega⟩
end SETH
namespace SETB
open PyProof.Rows SETA
def kOf:Int×Value->Int
 |(_,.int k _)=>k
 |_=>0
def AllI(l:List (Int×Value)):Prop:=∀e∈l,∃k t,e=(hashInt k,Value.int k t)
def Gr(t:SetTable):Prop:=SETH.Gs t/\t.fill*5<t.mask*3
def SetI(b:Bool)(a:Addr)(ks:List Int)(h:Heap):Prop :=
 ∃o es ep t,h.get? a=some o/\o.ExactSet/\o.data=.set es ep t/\AllI es.toList/\(es.toList.map kOf).Perm ks/\es.size<scanBound/\t.fits es.size=true/\Gr t/\t.led=b
theorem SetI.keep{h':Heap}(x:SetI b a ks h)(k:∀o,h.get? a=some o->h'.get? a=some o):SetI b a ks h':=by
 obtain ⟨o,es,ep,t,ho,r⟩:=x;exact ⟨o,es,ep,t,k o ho,r⟩
theorem SetI.len(x:SetI b a ks h):ks.length<scanBound:=by
 obtain ⟨o,es,ep,t,_,_,_,_,p,hb,_⟩:=x;have:=p.length_eq;rw [ax,aO] at this;omega
section
variable{prog:Program}{w:World}{E:Value->Shared->Prop}{A:Around}{s:Shared}
theorem AllI.el(h:AllI l):ElemsOf (intKind prog w) l:=λe he=>by
 obtain ⟨k,t,rfl⟩:=h e he;exact ⟨⟨k,by simp [intKind,Value.isInt],rfl⟩,rfl⟩
theorem b0d(h:e=(hashInt j,Value.int j t)):(intKind prog w).is k e.2=decide (k=j):=by
 subst h
 by_cases q:k=j
 .subst q;simp [intKind,Value.isInt]
 .rw [aY q];show Value.isInt k (Value.int j t)=false;simp only [Value.isInt,da,ne_eq]
  first|exact q|exact λz=>q z.symm
theorem af5(h:AllI l):l.findIdx? (λe=>(intKind prog w).is k e.2)=none↔k∉l.map kOf:=by
 rw [List.findIdx?_eq_none_iff]
 constructor
 .intro n m
  obtain ⟨e,he,q⟩:=b6.mp m;have:=n e he;obtain ⟨j,t,rfl⟩:=h e he;rw [b0d rfl] at this;have:¬ k=j:=of_decide_eq_false this;exact this q.symm
 .intro n e he
  obtain ⟨j,t,rfl⟩:=h e he;rw [b0d rfl];exact aY λz=>n (b6.mpr ⟨_,he,z.symm⟩)
theorem stored(prog:Program)(w:World){es':Array (Int×Value)}{t':SetTable}{h:Heap}(ho:h.get? a=some o)(hex:o.ExactSet)(hd:o.data=.set es ep t)(al:AllI es'.toList)(p:(es'.toList.map kOf).Perm ks)(sz:es'.size<scanBound)(f:t'.fits es'.size=true)(g:Gr t')(l:t'.led=b) :
  SetI b a ks (h.update a (Obj.putSet es' t')):=by
 have e:=SetOf_store (knd:=intKind prog w) (S':=λk=>es'.toList.any λe=>(intKind prog w).is k e.2) ho hex hd al.el (λk=>List.any_eq_true) sz f;exact ⟨_,es',ep+1,t',e.1,hex,rfl,al,p,sz,f,g,l⟩
theorem held(prog:Program)(w:World){es':Array (Int×Value)}{t':SetTable}{h:Heap}(ho:h.get? a=some o)(hex:o.ExactSet)(hd:o.data=.set es ep t)(al:AllI es'.toList)(sz:es'.size<scanBound)(f:t'.fits es'.size=true) :
  ∃o1 ep1,(h.update a (Obj.putSet es' t')).get? a=some o1/\o1.ExactSet/\o1.data=.set es' ep1 t':=by
 have e:=SetOf_store (knd:=intKind prog w) (S':=λk=>es'.toList.any λe=>(intKind prog w).is k e.2) ho hex hd al.el (λk=>List.any_eq_true) sz f;exact ⟨_,ep+1,e.1,hex,rfl⟩
theorem size_of{t:SetTable}(hf:t.fits n=true):t.place.size=n:=by
 simp only [SetTable.fits,cf,gN] at hf;exact hf.1
theorem arv{b:Bool}{a:Addr}{o:Obj}{es es1:Array (Int×Value)}{ep:Nat}{t t2:SetTable}{ks:List Int}{wd:Bool}{g:Bool->Sem Unit}{R:Option Bool->Shared->Prop}{rl:Array (Int×Value)×SetTable×Bool}
  (hrl:rl=relayAll t2 es1 (SetTable.grown es1.size))
  (hg:∀(c:Bool) (z:Shared) (R':Unit->Shared->Prop),R' () z->wpAny (model prog w) A (g c) R' E z)
  (ho:s.heap.get? a=some o) (hex:o.ExactSet) (hd:o.data=.set es ep t) (al:AllI es1.toList) (pm:(es1.toList.map kOf).Perm ks) (sz:es1.size<scanBound) (f:t2.fits es1.size=true) (gs:SETH.Gs t2) (ld:t2.led=b) (hwd:wd=false)
  (fin:∀h',Heap.SameBut a s.heap h'->SetI b a ks h'->R (some true) {s with heap:=h' }) :
  wpAny (model prog w) A (storeSet a es1 t2>>=λ_=>if (!wd && t2.tooFull)=true then (g rl.2.2>>=λ_=>storeSet a rl.1 rl.2.1>>=λ_=>pure (some true)) else pure (some true)) R E s:=by
 have fl:=SETH.a2b gs.gd;have ps:=size_of f;have big:=gs.big;have sb:=bP s.heap a (Obj.putSet es1 t2);refine af (eX ho hd ?_ (eY sz))
 split
 .rename_i full;have full:t2.fill*5≥t2.mask*3:=by
   rw [hwd] at full;simpa [SetTable.tooFull] using full
  have lt:es1.size<4096:=sz;have p2:=relayAll_perm t2 es1 (SetTable.grown es1.size);obtain ⟨g2,_,f2,r2⟩:=SETH.anj gs es1 (n:=SetTable.grown es1.size) (by unfold SetTable.grown;split<;>omega) (by unfold SetTable.grown;split<;>omega) (by omega)
  have l2:=ajc t2 es1 (SetTable.grown es1.size);rw [<-hrl] at p2 f2 g2 l2 r2
  clear hrl
  obtain ⟨es2,t3,gv⟩:=rl;have z2:es2.size<scanBound:=by
   have:=p2.length_eq
   simp only [aO] at this;omega
  obtain ⟨o1,p1,ho1,hex1,hd1⟩:=held prog w ho hex hd al sz f;refine af (hg _ _ _ (af (eX ho1 hd1 (ar (fin _ (sb.trans (bP _ a _)) ?_)) (eY z2))));exact stored prog w ho1 hex1 hd1 (λe he=>al e (p2.mem_iff.mp he)) ((p2.map kOf).trans pm) z2 f2 ⟨g2,r2⟩ (l2.trans ld)
 .rename_i full;have full:t2.fill*5<t2.mask*3:=by
   rw [hwd] at full;simpa [SetTable.tooFull] using full
  exact ar (fin _ sb (stored prog w ho hex hd al pm sz f ⟨gs,full⟩ ld))
theorem a5g{b:Bool}{a:Addr}{ks:List Int}{k:Int}{tk:Tok}{Q:Bool->Shared->Prop}(hS:SetI b a ks s.heap)(few:ks.length+1<scanBound)
  (q:∀(h':Heap) (r:Bool),Heap.SameBut a s.heap h'->SetI b a (L2.stepK ks k) h'->Q r {s with heap:=h' }):wpAny (model prog w) A (setAddHashed a (.int k tk) (hashInt k)) Q E s:=by
 obtain ⟨o,es,ep,t,ho,hex,hd,al,pm,sz,ft,gd,ld⟩:=hS;have hk:(intKind prog w).is k (Value.int k tk)=true:=by simp [intKind,Value.isInt]
 have lk:es.size=ks.length:=by have:=pm.length_eq;rwa [ax,aO] at this
 unfold setAddHashed setAddHashedIn;refine bR (af (bI ho hd ft ?_));dsimp only;rw [byScan_of (knd:=intKind prog w) rfl sz al.el,aE rfl];unfold setAddByScan;refine af (af (eU (af (wpAny_setScan_of (knd:=intKind prog w) hk ho hd ft al.el ?_))))
 cases c:es.toList.findIdx? (λe=>(intKind prog w).is k e.2) with
 |some j =>
  have mem:k∈ks:=by
   apply dZ
   intro n
   have:=(af5 (prog:=prog) (w:=w) al (k:=k)).mpr λm=>n (pm.mem_iff.mp m)
   rw [this] at c;cases c
  refine ar (ar ?_);have:=q s.heap false (eR a s.heap) (by rw [show L2.stepK ks k=ks from aE mem];exact ⟨o,es,ep,t,ho,hex,hd,al,pm,sz,ft,gd,ld⟩)
  exact this
 |none =>
  have nm:k∉ks:=λm=>(af5 (prog:=prog) (w:=w) al).mp c (pm.mem_iff.mpr m);have es1p:=layNew_perm t es (hashInt k) (.int k tk);have wd1:=(ajb gd.1.gd es (hashInt k) (.int k tk)).2;obtain ⟨gs1,_,ft1,_,_⟩:=SETH.ajg gd.1 es (size_of ft) gd.2 (hashInt k) (.int k tk);have ld1:=agp t es (hashInt k) (.int k tk)
  generalize layNew t es (hashInt k) (.int k tk)=L at es1p ft1 gs1 ld1 wd1 ⊢
  obtain ⟨es1,t1,wd,gave⟩:=L;dsimp only at es1p ft1 gs1 ld1 wd1 ⊢;rw [Array.toList_push] at es1p;have al1:AllI es1.toList:=λe he=>by
   rcases aZ.mp (es1p.mem_iff.mp he) with m|m
   .exact al e m
   .rw [aD] at m;exact ⟨k,tk,m⟩
  have pm1:(es1.toList.map kOf).Perm (L2.stepK ks k):=by
   rw [show L2.stepK ks k=ks++[k] from aS nm]
   refine (es1p.map kOf).trans ?_;rw [cI];exact pm.append_right _
  have sz1:es1.size<scanBound:=by
   have:=es1p.length_eq
   rw [aO,av,aO,aK] at this;omega
  have fin:∀h':Heap,Heap.SameBut a s.heap h'->SetI b a (L2.stepK ks k) h'->wpAny (model prog w) A (pure true) Q E {s with heap:=h' }:=λh' sb x=>ar (q h' true sb x)
  have way:∀(c:Bool) (z:Shared) (R:Unit->Shared->Prop),R () z->wpAny (model prog w) A (match c with|true=>rule "set.scan.the-table-gave-way" |false=>pure ()) R E z:=λc z R h=>by
   cases c
   .exact ar h
   .exact eU h
  refine af (way gave _ _ ?_)
  split
  .refine af ?_;rw [hashByValue_scannable 8 (x:=.int k tk) rfl];refine ar ?_;exact arv rfl way ho hex hd al1 pm1 sz1 ft1 gs1 (ld1.trans ld) wd1 fin
  .rename_i z;exact absurd gs1.plain z
end
section
variable{prog:Program}{w:World}{E:Value->Shared->Prop}{A:Around}{s:Shared}
theorem SetI.typeIs(x:SetI b a ks s.heap):s.TypeIs (.ref a) "set":=by
 obtain ⟨o,_,_,_,ho,hex,_⟩:=x;exact ⟨o,ho,hex.1⟩
theorem ank(hS:SetI b a ks s.heap)(few:ks.length+1<scanBound)
  (q:∀h':Heap,Heap.SameBut a s.heap h'->SetI b a (L2.stepK ks k) h'->Q .none {s with heap:=h',toks:=s.toks+1}):wpAny (model prog w) A (call (.builtin "set.add") [.ref a,.int k tk]) Q E s:=by
 refine bX F.slot_set_add hS.typeIs F.entry_set_add ?_ (F.args_set_add_2 _ _);show wpAny (model prog w) _ (Builtin.«set.add» ⟨[.ref a,.int k tk],[]⟩) _ _ s;have e:Builtin.«set.add» ⟨[.ref a,.int k tk],[]⟩=(setAdd a (.int k tk)>>=λ_=>ret .none):=by
  unfold Builtin.«set.add» Builtin.Frozenset.oneOther;rfl
 rw [e];unfold setAdd;refine af (bR (af ((intKind prog w).pyHash (k:=k) (by simp [intKind,Value.isInt]) ?_)))
 exact a5g (s:={s with toks:=s.toks+1}) hS few λh' r sb x=>ar ⟨_,rfl,q h' sb x⟩
def a1i(b:Bool):Obj:={cls:=.type "set",dict:=none,data:=.set #[] 0 (.fresh 0 0 b)}
theorem ad7{h:Heap}(e:h.get? a=some (a1i b)):SetI b a [] h :=
 ⟨_, #[],0,_,e,⟨rfl,rfl,rfl⟩,rfl,λe he=>by simp at he,by simp,by decide,by simp [SetTable.fits,SetTable.fresh,SetTable.fill],⟨SETH.ani _ _ _,by show 0*5<7*3;decide⟩,rfl⟩
def byT(w:World):Bool:=w.params.followText "set-order"
theorem a9q(q:Q (.ref s.heap.objs.size) {s with heap:=s.heap.push (a1i (!byT w))}):wpAny (model prog w) A (newSet (.type "set")) Q E s:=by
 unfold newSet setsByText;refine af (af (fz (ar ?_)));exact cA q
end
end SETB
set_option maxHeartbeats 1000000
namespace SETB
open PyProof.Rows SETA PySem.Builtin
noncomputable def itO(f:Value)(i:Nat)(a:Addr)(n ep:Nat):Obj:={cls:=.type "set_iterator",data:=.fields #[f,rawInt i,.ref a,rawInt n,rawInt ep]}
theorem slot_next:Slot "set_iterator" "__next__" "set_iterator.__next__" :=
 .of (owner := "set_iterator") (n := "__next__") (by rw [gR,eO];kernel_rfl) (by decide +kernel) (by decide +kernel) (by decide +kernel)
  (Or.inl (by decide +kernel)) (by rw [fZ];kernel_rfl)
theorem entry_next:entryFor table "set_iterator.__next__" = some Builtin.«set_iterator.__next__»:=entryFor_of_fast (by kernel_rfl)
theorem args_next(a:Value):argsOk "set_iterator.__next__" ⟨[a],[]⟩:=by unfold argsOk;kernel_rfl
theorem agr:entryFor table "set.__iter__" = some Builtin.«frozenset.__iter__» :=
 entryFor_alias (id' := "frozenset.__iter__") (by kernel_rfl) rfl (by decide +kernel) (by kernel_rfl)
theorem ajh(a:Value):argsOk "set.__iter__" ⟨[a],[]⟩:=by unfold argsOk;kernel_rfl
section
variable{prog:Program}{w:World}{E:Value->Shared->Prop}{A:Around}{s:Shared}
theorem a5h(q:Q (byT w) s):wpAny (model prog w) A setsByText Q E s:=by
 unfold setsByText;exact af (fz (ar q))
theorem a7l(ho:s.heap.get? a=some o)(hd:o.data=.set es ep t)(hf:t.fits es.size=true)(bt:byT w=false)(pl:t.plain=true\/es.size<=1)(ld:t.led=true)(hk:SetTable.below t.place slot=k)
  (hr:(∃h x j,es[k]? = some (h,x)/\t.place[k]? = some j/\r=some (x,j+1))\/(es[k]? = none/\r=none)) (q:Q r s):wpAny (model prog w) A (setNext a slot i ep') Q E s:=by
 subst hk;unfold setNext
 apply af
 apply bI ho hd hf
 apply af
 apply a5h
 simp only [bt,bi,dC]
 split
 .rename_i z;have z:(!t.plain && decide (es.size > 1))=true:=z
  rcases pl with p|p
  .rw [p] at z;cases z
  .rw [aY (by omega),iQ] at z
   cases z
 have led:∀R:Unit->Shared->Prop,R () s->wpAny (model prog w) A (if (!t.led && !es.isEmpty)=true then unsupported "set:maker-not-led" else pure ()) R E s:=λR r=>by
  rw [ld];exact ar r
 refine af (led _ (ar ?_))
 rcases hr with ⟨h,x,j,e,f,rfl⟩|⟨e,rfl⟩
 .rw [e,f];exact q
 .rw [e];exact q
def Tells(w:World)(a:Addr)(slot i ep:Nat)(r:Option (Value×Nat))(s:Shared):Prop:=∀(prog:Program) (A:Around) (E:Value->Shared->Prop) (Q:Option (Value×Nat)->Shared->Prop),Q r s->wpAny (model prog w) A (setNext a slot i ep) Q E s
theorem next_item{o:Obj}{es:Array (Int×Value)}{ep i slot nx:Nat}{t:SetTable}(hi:s.heap.get? it=some (itO (rawInt slot) i a es.size ep))(ho:s.heap.get? a=some o)(hd:o.data=.set es ep t)(hf:t.fits es.size=true)(hn:Tells w a slot i ep (some (x,nx)) s)
  (q:∀h':Heap,h'.get? it=some (itO (rawInt nx) (i+1) a es.size ep)->Heap.SameBut it s.heap h'->Q (some x) {s with heap:=h' }):wpAny (model prog w) A (pyNext (.ref it)) Q E s:=by
 have hT:s.TypeIs (.ref it) "set_iterator":=⟨_,hi,rfl⟩;unfold pyNext;refine af (iq (cK (name:=Str.ofString "__next__") hT slot_next (bX slot_next hT entry_next ?_ (args_next _))));unfold Builtin.«set_iterator.__next__»;have hn':∀{A:Around} {E:Value->Shared->Prop} {Q:Option (Value×Nat)->Shared->Prop},Q _ s->wpAny (model prog w) A (setNext a (slot:Int).toNat (i:Int).toNat (ep:Int).toNat) Q E s:=λ{A E Q} r=>hn prog A E Q r
 wp_walk using hn',bI ho hd hf
 exact ⟨x,rfl,ar (q _ (bG _ (bG _ hi rfl) rfl) ((bP ..).trans (bP ..)))⟩
theorem aji{o:Obj}{es:Array (Int×Value)}{ep i slot:Nat}{t:SetTable}(hh:A.handled=none)(hi:s.heap.get? it=some (itO (rawInt slot) i a es.size ep))(ho:s.heap.get? a=some o)(hd:o.data=.set es ep t)(hf:t.fits es.size=true)(hn:Tells w a slot i ep none s)
  (q:∀h':Heap,Heap.ExtBut it s.heap h'->Q none {s with heap:=h' }):wpAny (model prog w) A (pyNext (.ref it)) Q E s:=by
 have hT:s.TypeIs (.ref it) "set_iterator":=⟨_,hi,rfl⟩;unfold pyNext;refine af (iq (cK (name:=Str.ofString "__next__") hT slot_next (bX slot_next hT entry_next ?_ (args_next _))));unfold Builtin.«set_iterator.__next__»;have hn':∀{A:Around} {E:Value->Shared->Prop} {Q:Option (Value×Nat)->Shared->Prop},Q _ s->wpAny (model prog w) A (setNext a (slot:Int).toNat (i:Int).toNat (ep:Int).toNat) Q E s:=λ{A E Q} r=>hn prog A E Q r
 wp_walk using hn',bI ho hd hf
 unfold raiseNew
 apply af
 apply wpAny_handled
 rw [show A.in1.handled=_ from hh]
 wp_walk
 show wpAny (model prog w) A (isSubtype (.type "StopIteration") (.type "StopIteration")) _ _ _;rw [isSubtype_stop];exact ar (ar (q _ λb o hb e=>ai _ (ai _ ((bP s.heap it _).extBut b o hb e))))
end
end SETB
set_option maxHeartbeats 1000000
namespace SETB
open PyProof.Rows SETA PySem.Builtin
def slotAt(t:SetTable)(i:Nat):Nat:=if i=0 then 0 else t.place.getD (i-1) 0+1
theorem ajj(g:Gd t)(h:i<=t.place.size):SetTable.below t.place (slotAt t i)=i:=by
 unfold slotAt
 split
 .rename_i z;subst z;exact arq g.ri
 .have hk:i-1<t.place.size:=by omega
  have e:t.place.getD (i-1) 0=t.place[i-1]:=by simp [Array.getD,hk]
  rw [e,agl g.ri hk];omega
section
variable{prog:Program}{w:World}{E:Value->Shared->Prop}{A:Around}{s:Shared}{a:Addr}{o:Obj}{es:Array (Int×Value)}{ep i:Nat}{t:SetTable}
theorem agt(ho:s.heap.get? a=some o)(hd:o.data=.set es ep t)(hf:t.fits es.size=true)(bt:byT w=false)(pl:t.plain=true\/es.size<=1)(ld:t.led=true)(g:Gd t)(hi:i<es.size):Tells w a (slotAt t i) i ep (some (es[i].2,slotAt t (i+1))) s:=λprog A E Q q=>by
 have sz:=size_of hf;refine a7l ho hd hf bt pl ld (ajj g (by omega)) (.inl ⟨_,_,_,cC hi,cC (by omega),rfl⟩) ?_
 have e:slotAt t (i+1)=t.place[i]'(by omega)+1:=by
  unfold slotAt;rw [aS (by omega)]
  simp [Array.getD,show i<t.place.size by omega]
 rw [e] at q;exact q
theorem agu(ho:s.heap.get? a=some o)(hd:o.data=.set es ep t)(hf:t.fits es.size=true)(bt:byT w=false)(pl:t.plain=true\/es.size<=1)(ld:t.led=true)(g:Gd t):Tells w a (slotAt t es.size) es.size ep none s:=λprog A E Q q=>by
 have sz:=size_of hf;exact a7l ho hd hf bt pl ld (ajj g (by omega)) (.inr ⟨Array.getElem?_eq_none (by omega),rfl⟩) q
theorem anl(ho:s.heap.get? a=some o)(hex:o.ExactSet)(hd:o.data=.set es ep t)(hf:t.fits es.size=true)(nd:byT w=true\/t.plain=true\/es.size<=1)
  (q:Q (.ref s.heap.objs.size) {s with heap:=s.heap.push (itO (rawInt 0) 0 a es.size ep)}):wpAny (model prog w) A (pyIter (.ref a)) Q E s:=by
 have ht:s.TypeIs (.ref a) "set":=⟨_,ho,hex.1⟩;refine wpAny_pyIter_slot ht F.slot_set_iter (bX F.slot_set_iter ht agr ?_ (ajh _));have dr:∀{A:Around} {E:Value->Shared->Prop} {Q:Bool->Shared->Prop},Q false s->wpAny (model prog w) A (setDrawn a) Q E s:=λ{A E Q} r=>by
  unfold setDrawn;refine af (bI ho hd hf (af (a5h (ar ?_))));have:(!byT w && (!t.plain && decide (es.size > 1)))=false:=by
   rcases nd with z|z|z
   .rw [z];rfl
   .rw [z];simp
   .rw [aY (by omega)];simp
  rw [<-this] at r;exact r
 unfold Builtin.«frozenset.__iter__»
 wp_walk using dr,bI ho hd hf
 exact ⟨_,rfl, "set_iterator",_,⟨_,aJ _ rfl,rfl⟩,slot_next.lookup,q⟩
end
end SETB
set_option maxHeartbeats 1000000
namespace SETB
open PyProof.Rows SETA PySem.Builtin
theorem a8u{α:Type}:∀(l:List α) (i:Nat) (h:i<l.length),(l[i]::l.eraseIdx i).Perm l
 |x::l,0,_=>.refl _
 |x::l,i+1,h=>(List.Perm.swap ..).trans ((a8u l i (fW h)).cons x)
theorem ajk{α:Type}(nx:Nat->Nat):∀(n k:Nat) (l:List α) (out:Array α),l.length=n->(pickOrder.go nx n k l out).toList.Perm (out.toList++l)
 |0,k,l,out,e=>by
  cases l with
  |nil=>simp [pickOrder.go]
  |cons x l=>cases e
 |n+1,k,l,out,e=>by
  have hi:nx k%l.length<l.length:=fI _ (by omega)
  unfold pickOrder.go;rw [ag hi];refine (ajk nx n (k+1) _ _ (by rw [List.length_eraseIdx_of_lt hi];omega)).trans ?_
  rw [Array.toList_push,cM];exact (a8u l _ hi).append_left _
theorem ajl{α:Type}(nx:Nat->Nat)(xs:Array α):(pickOrder nx xs).toList.Perm xs.toList:=by
 have:=ajk nx xs.size 0 xs.toList #[] (by simp)
 simpa [pickOrder] using this
noncomputable def a8v(w:World)(a:Addr)(ep:Nat)(es:Array (Int×Value)):Array (Int×Value):=if byT w then pickOrder (w.params.setOrder a ep) es else es
theorem a6d(w:World)(a:Addr)(ep:Nat)(es:Array (Int×Value)):(a8v w a ep es).toList.Perm es.toList:=by
 unfold a8v
 split
 .exact ajl _ _
 .exact .refl _
theorem a4h(w:World)(a:Addr)(ep:Nat)(es:Array (Int×Value)):(a8v w a ep es).size=es.size:=by
 have:=(a6d w a ep es).length_eq
 simpa using this
def a9r(w:World)(t:SetTable)(i:Nat):Nat:=if byT w then 0 else slotAt t i
section
variable{prog:Program}{w:World}{E:Value->Shared->Prop}{A:Around}{s:Shared}{a:Addr}{o:Obj}{es:Array (Int×Value)}{ep i:Nat}{t:SetTable}
theorem a7m(ho:s.heap.get? a=some o)(hd:o.data=.set es ep t)(hf:t.fits es.size=true)(bt:byT w=true)(q:Q (pickOrder (w.params.setOrder a ep) es) s):wpAny (model prog w) A (setWalk a) Q E s:=by
 unfold setWalk
 apply af
 apply bI ho hd hf
 apply af
 apply a5h
 simp only [bt,db];exact af (fz (ar q))
theorem abt(ho:s.heap.get? a=some o)(hd:o.data=.set es ep t)(hf:t.fits es.size=true)(bt:byT w=true)
  (q:Q (((pickOrder (w.params.setOrder a ep) es)[i]?).map λe=>(e.2,slot)) s):wpAny (model prog w) A (setNext a slot i ep) Q E s:=by
 unfold setNext
 apply af
 apply bI ho hd hf
 apply af
 apply a5h
 simp only [bt,db,bne_self_eq_false,bi,dC]
 first
 |exact af (a7m ho hd hf bt (ar q))
 |exact af (ar (af (a7m ho hd hf bt (ar q))))
theorem arw(ho:s.heap.get? a=some o)(hd:o.data=.set es ep t)(hf:t.fits es.size=true)(nd:byT w=true\/t.plain=true\/es.size<=1)(ld:t.led = !byT w)(g:Gd t)(hi:i<(a8v w a ep es).size):Tells w a (a9r w t i) i ep (some ((a8v w a ep es)[i].2,a9r w t (i+1))) s:=by
 have sz:=a4h w a ep es
 cases bt:byT w with
 |true =>
  intro prog A E Q q
  refine abt ho hd hf bt ?_;have e:pickOrder (w.params.setOrder a ep) es=a8v w a ep es:=by unfold a8v;rw [bt];rfl
  rw [e,cC hi];unfold a9r at q ⊢;rw [bt] at q ⊢;exact q
 |false =>
  have e:a8v w a ep es=es:=by unfold a8v;rw [bt];rfl
  rw [bt] at ld;have:=agt (i:=i) ho hd hf bt (nd.resolve_left (by rw [bt];decide)) ld g (by omega)
  unfold a9r;rw [bt];simp only [e,bi,dC];exact this
theorem ajm(ho:s.heap.get? a=some o)(hd:o.data=.set es ep t)(hf:t.fits es.size=true)(nd:byT w=true\/t.plain=true\/es.size<=1)(ld:t.led = !byT w)(g:Gd t):Tells w a (a9r w t es.size) es.size ep none s:=by
 have sz:=a4h w a ep es
 cases bt:byT w with
 |true =>
  intro prog A E Q q
  refine abt ho hd hf bt ?_;have e:pickOrder (w.params.setOrder a ep) es=a8v w a ep es:=by unfold a8v;rw [bt];rfl
  rw [e,Array.getElem?_eq_none (by omega)]
  exact q
 |false =>
  rw [bt] at ld;have:=agu ho hd hf bt (nd.resolve_left (by rw [bt];decide)) ld g
  unfold a9r;rw [bt];exact this
end
end SETB
set_option maxHeartbeats 1000000
namespace SETB
open PyProof.Rows SETA PySem.Builtin
theorem slot_self:Slot "set_iterator" "__iter__" "set_iterator.__iter__" :=
 .of (owner := "set_iterator") (n := "__iter__") (by rw [gR,eO];kernel_rfl) (by decide +kernel) (by decide +kernel) (by decide +kernel)
  (Or.inl (by decide +kernel)) (by rw [fZ];kernel_rfl)
theorem entry_self:entryFor table "set_iterator.__iter__" = some Builtin.«dict_keyiterator.__iter__»:=entryFor_alias (id' := "dict_keyiterator.__iter__") (by kernel_rfl) rfl (by decide +kernel) (by kernel_rfl)
theorem args_self(a:Value):argsOk "set_iterator.__iter__" ⟨[a],[]⟩:=by unfold argsOk;kernel_rfl
section
variable{prog:Program}{w:World}{A:Around}{a I:Addr}{o:Obj}{es:Array (Int×Value)}{ep:Nat}{t:SetTable}
theorem arx{s:Shared}(ht:s.TypeIs (.ref I) "set_iterator")(q:Q (.ref I) s):wpAny (model prog w) A (pyIter (.ref I)) Q E s:=by
 refine wpAny_pyIter_slot ht slot_self (bX slot_self ht entry_self ?_ (args_self _));show wpAny (model prog w) _ (ret (.ref I)) _ _ s;exact ar ⟨_,rfl, "set_iterator",_,ht,slot_next.lookup,q⟩
theorem ajn(hh:A.handled=none)(ne:a≠I)(hd:o.data=.set es ep t)(hf:t.fits es.size=true)(nd:byT w=true\/t.plain=true\/es.size<=1)(ld:t.led = !byT w)(g:Gd t) :
  Walks prog w A I [I,a] [I] es.size (λi v=>((a8v w a ep es)[i]?).map (·.2)=some v) (λi h=>h.get? I=some (itO (rawInt (a9r w t i)) i a es.size ep)/\h.get? a=some o) where
 sub:=λb hb=>aC.mpr (.inl (aD.mp hb))
 frame:=λ_ _ _ st hk=>⟨hk I (by simp) _ st.1,hk a (by simp) _ st.2⟩
 item:=λi s Q E hi st q=>by
  have hi':i<(a8v w a ep es).size:=by rw [a4h];exact hi
  refine next_item st.1 st.2 hd hf (arw st.2 hd hf nd ld g hi') λh' e sb=>?_;exact q _ h' s.toks (by rw [cC hi'];rfl) ⟨e,sb.extBut a o ne st.2⟩ λb o hb e=>sb.extBut b o (λh=>hb (by simp [h])) e
 done:=λs Q E st q=>aji hh st.1 st.2 hd hf (ajm st.2 hd hf nd ld g) λh' e=>q h' s.toks λb o hb x=>e b o (λh=>hb (by simp [h])) x
 self:=λi s Q E st q=>arx ⟨_,st.1,rfl⟩ q
end
theorem ajo{A:Around}{s:Shared}(hh:A.handled=none)(hS:SetI (!byT w) a ks s.heap)
  (q:∀(es:Array (Int×Value)) (St:Nat->Heap->Prop),AllI es.toList->(es.toList.map kOf).Perm ks->∀h':Heap,(∀b o,s.heap.get? b=some o->h'.get? b=some o)->h'.objs.size=s.heap.objs.size+1->St 0 h'->
   Walks prog w A s.heap.objs.size [s.heap.objs.size,a] [s.heap.objs.size] es.size (λi v=>(es[i]?).map (·.2)=some v) St->Q (.ref s.heap.objs.size) {s with heap:=h' }):wpAny (model prog w) A (pyIter (.ref a)) Q E s:=by
 obtain ⟨o,es,ep,t,ho,hex,hd,al,pm,sz,ft,gr,ld⟩:=hS;have nd:byT w=true\/t.plain=true\/es.size<=1:=.inr (.inl gr.1.plain);refine anl ho hex hd ft nd ?_;have ne:a≠s.heap.objs.size:=λc=>by
  rw [c] at ho;simp [Heap.get?] at ho
 have W:=ajn (prog:=prog) (I:=s.heap.objs.size) hh ne hd ft nd ld gr.1.gd;have pp:=a6d w a ep es;rw [<-a4h w a ep es] at W;refine q (a8v w a ep es) _ (λe he=>al e (pp.mem_iff.mp he)) ((pp.map kOf).trans pm) _ (λb o e=>ai _ e) (by simp [Heap.push]) ⟨?_,ai _ ho⟩ W
 have s0:a9r w t 0=0:=by unfold a9r slotAt;simp
 rw [s0,a4h];exact aJ _ rfl
end SETB
set_option maxHeartbeats 1000000
namespace SETB
open PyProof.Rows SETA PySem.Builtin
section
variable{prog:Program}{w:World}{A:Around}{s:Shared}{E:Value->Shared->Prop}{a:Addr}{ks:List Int}
theorem anm(ht:s.TypeIs (.ref a) "set")(q:Q false s):wpAny (model prog w) A (Builtin.List.listLengthHint (.ref a)) Q E s:=by
 unfold Builtin.List.listLengthHint;refine af (gS ht F.slot_set_len.lookup ?_);have sp:splitId "set.__len__" = some ("set","__len__"):=by decide +kernel
 dsimp only;rw [sp];dsimp only
 apply af
 apply dM (T := "set") (b:=true) ht (by rw [fZ];kernel_rfl)
 rw [aS (by decide)]
 refine wpAny_ite_split (λ_=>?_) λn=>absurd (by decide +kernel) n
 apply af
 apply gy ht
 exact ar q
theorem ad8(hh:A.handled=none)(hS:SetI (!byT w) a ks s.heap)
  (q:∀(vs:List Value) (js:List Int) (s':Shared),js.Perm ks->vs.length=js.length->(∀(i:Nat) (v:Value),vs[i]? = some v->∃k t,js[i]? = some k/\v=Value.int k t)->Moved [] (λx y=>y=x) s s'->s.heap.objs.size<=s'.heap.objs.size->Q vs s'):wpAny (model prog w) A (collect (.ref a)) Q E s:=by
 unfold collect
 apply af
 apply wpAny_runValue
 apply cQ F.entry_proto_collect
 rw [bW F.plain_proto_collect _];unfold Builtin.«proto.collect»
 wp_walk
 refine ⟨dR F.plain_list_iadd _,cQ F.entry_list_iadd ?_⟩;rw [bW F.plain_list_iadd _];obtain ⟨o,ho,hT⟩:∃o,s.heap.get? a=some o/\o.cls=.type "set":=by
  obtain ⟨o,es,ep,t,ho,hex,_⟩:=hS;exact ⟨o,ho,hex.1⟩
 have lt:=aG ho;have up:∀b x,s.heap.get? b=some x->(s.heap.push {cls:=.type "list",data:=.seq #[]}).get? b=some x:=λb x e=>ai _ e;have sz0:(s.heap.push {cls:=.type "list",data:=.seq #[]}).objs.size=s.heap.objs.size+1:=by simp [Heap.push]
 have hL:(s.heap.push {cls:=.type "list",data:=.seq #[]}).get? s.heap.objs.size=some {cls:=.type "list",data:=.seq #[]}:=aJ _ rfl;have hS0:=hS.keep λx e=>up a x e;have few:=hS.len
 generalize s.heap.push {cls:=.type "list",data:=.seq #[]}=h0 at up sz0 hL hS0 ⊢
 show wpAny (model prog w) A.in1 (Builtin.List.listExtendWith (.ref s.heap.objs.size) (.ref a) (.ref s.heap.objs.size)) _ _ _;unfold Builtin.List.listExtendWith
 apply af
 have ht0:({s with heap:=h0}:Shared).TypeIs (.ref a) "set":=⟨o,up a o ho,hT⟩
 apply gy ht0
 have far:s.heap.objs.size≠a:=gX lt;rw [aS (by simp [Builtin.List.listSameRef,far])]
 apply af
 refine ajo (s:={s with heap:=h0}) hh hS0 λes St al pm h1 ext sz1 st W=>?_
 apply af
 apply bR
 have ht1:({s with heap:=h1}:Shared).TypeIs (.ref a) "set":=⟨o,ext a o (up a o ho),hT⟩
 apply anm ht1
 refine wpAny_ite_split (λ_=>?_) λn=>absurd (by decide +kernel) n
 apply af
 apply eU
 apply af
 have n1:es.size=ks.length:=by
  have:=pm.length_eq
  rwa [ax,aO] at this
 have hL1:=ext _ _ hL;show wpAny (model prog w) A.in1 (updateSeq s.heap.objs.size (·.push .none)>>=λ_=>updateSeq s.heap.objs.size (·.pop)) _ _ _;refine af (cU hL1 rfl ?_);have hL2:=bG (Obj.mapSeq (·.push Value.none)) hL1 rfl;refine cU hL2 rfl ?_;have hL3:=bG (Obj.mapSeq (·.pop)) hL2 rfl;have oth:∀b x,b≠s.heap.objs.size->h1.get? b=some x->((h1.update s.heap.objs.size (Obj.mapSeq (·.push Value.none))).update s.heap.objs.size (Obj.mapSeq (·.pop))).get? b=some x :=
  λb x hb e=>(bU _ _ (ee hb)).trans ((bU _ _ (ee hb)).trans e)
 have hf:s.heap.objs.size∉[h0.objs.size,a]:=λc=>by
  simp only [aC,bA,e9] at c
  rcases c with c|c
  .exact aV (Nat.lt_of_lt_of_eq (eH _) sz0.symm) c
  .exact far c
 refine ar ⟨dR eE _,codeAny_extend_loopS W.toS (by have:ks.length<4096:=few;rw [n1];unfold sizeLine;omega) _ hf _ es.size 0 _ _ _ rfl (bq _)
  (W.frame 0 h1 _ st λb hb x e=>oth b x (λc=>hf (c ▸ hb)) e) hL3 (ItemsOf.nil _) λs' acc c' hm hA hI=>?_⟩
 show wpAny (model prog w) A (load s.heap.objs.size>>=_) _ _ s'
 apply af
 apply wpAny_load hA
 refine ar (q acc.toList (es.toList.map kOf) s' pm (by rw [aO,hI.1,ax,aO]) (λi v e=>?_) ⟨λb x _ e=>?_,hm.gens,hm.drawn,hm.os,hm.toks⟩ (dO (aG hA)))
 .have this:(es[i]?).map (·.2)=some v:=hI.2 i v (by simpa using e)
  cases g:es[i]? with
  |none=>rw [g] at this;cases this
  |some y =>
   rw [g] at this;have m:y∈es.toList:=by
    obtain ⟨hi,z⟩:=gW.mp g;rw [<-z];simp
   obtain ⟨k,t,rfl⟩:=al y m;cases this
   exact ⟨k,t,by simp [g,kOf],rfl⟩
 .have lb:=aG e;refine hm.heap b x (λc=>?_) (oth b x (aV lb) (ext b x (up b x e)));simp only [aC,bA,e9] at c
  rcases c with c|c
  .exact aV lb c
  .exact aV (Nat.lt_of_lt_of_eq (fY lb) sz0.symm) c
end
end SETB
set_option maxHeartbeats 1000000
namespace SETB
open PyProof.Rows SETA PySem.Builtin
section
variable{prog:Program}{w:World}{A:Around}{s:Shared}{E:Value->Shared->Prop}{a:Addr}{ks:List Int}
theorem ints_of{vs:List Value}{js:List Int}(len:vs.length=js.length)(h:∀(i:Nat) (v:Value),vs[i]? = some v->∃k t,js[i]? = some k/\v=Value.int k t):IntsAre vs js:=by
 have all:∀v,v∈vs->∃n t,v=Value.int n t:=λv hv=>by
  obtain ⟨i,hi,e⟩:=fg.mp hv;obtain ⟨k,t,_,z⟩:=h i v (by rw [ag hi,e])
  exact ⟨k,t,z⟩
 have e:vs.map numOf=js:=by
  refine List.ext_getElem (by rw [ax,len]) λi h1 h2=>?_
  have hi:i<vs.length:=by omega
  obtain ⟨k,t,x,z⟩:=h i vs[i] (ag hi);rw [List.getElem_map,z];rw [ag h2] at x;cases x
  rfl
 have:=intsAre_map vs all
 rwa [e] at this
theorem agv(hh:A.handled=none)(hS:SetI (!byT w) a ks s.heap)(h64:ks.length<64)
  (q:∀(l:Addr) (out:Array Value) (e:Nat) (s':Shared),s.heap.objs.size<=l->IntsAre out.toList (PySem.W.sortI ks)->s'.heap.get? l=some (seqObj "list" out e)->Moved [] (λx y=>y=x) s s'->Q (.ref l) s') :
  wpAny (model prog w) A (call (.builtin "sorted") [.ref a]) Q E s:=by
 refine Calls.call_function_entry kind_sorted plain_sorted entry_sorted (args_sorted1 _) ?_;unfold Builtin.«sorted»
 apply af (m:=checkCount "sorted" 1 1 _)
 apply ar
 apply af
 refine ad8 hh hS λvs js s1 pj len it mv up=>?_;have hI:=ints_of len it;have l64:vs.length<64:=by rw [len,pj.length_eq];exact h64
 apply af
 refine wpAny_newList ?_ (hsz:=by rw [fB];omega)
 have hL:(s1.heap.push (seqObj "list" vs.toArray 0)).get? s1.heap.objs.size=some (seqObj "list" vs.toArray 0):=aJ _ rfl
 apply af
 apply bR
 refine bX slot_list_sort (s:={s1 with heap:=s1.heap.push (seqObj "list" vs.toArray 0)}) ⟨_,hL,rfl⟩ entry_list_sort (list_sort_tree hL hI l64 λout ns a1 a2 a3=>⟨_,rfl,?_⟩) (args_list_sort _)
 have e2:ns=PySem.W.sortI ks:=PySem.W.eq_sortI (a2.trans pj) a3;subst e2;obtain ⟨e,he⟩:=sortedHeap_at (out:=out) hL;refine ar ⟨_,rfl,q _ out e _ ?_ a1 he ⟨λb x hb g=>?_,mv.gens,mv.drawn,mv.os,mv.toks⟩⟩
 .exact up
 .have g1:=mv.heap b x hb g;have lt:=aG g1;show (sortedHeap _ _ _ _).get? b=some x;rw [sortedHeap_old (aV lt) (by rw [size_push'];exact fY lt)]
  exact ai _ g1
end
end SETB
set_option maxHeartbeats 1000000
namespace L2
open PyProof.Rows SETB
def acl(w:World)(a:Addr)(ks:List Int):HO:=.ext λh=>SetI (!byT w) a ks h
section
variable{X:Cx}
theorem a08(hc:X.calm=true):CallR X (.builtin "sorted") (λxs H Q=>∃(p:Addr) (ks:List Int),xs=[.ref p]/\H p=some (acl X.w p ks)/\ks.length<64/\∀l,H l=none->Q (.ref l) (upd H l (.lst ((PySem.W.sortI ks).map V.int)))):=by
 intro pins s Z H xs us Q I r ⟨p,ks,e,hp,h64,q⟩
 subst e;obtain ⟨u,rfl,ru⟩:=vals1 r;cases ru
 obtain ⟨hS,_⟩:=I.hok p _ hp;refine agv (I.ok.hd hc) hS h64 λl out e s' hl a1 he mv=>?_;obtain ⟨h',g',d',t',o'⟩:=s';obtain ⟨mh,mg,md,mo,mt⟩:=mv;dsimp only at mh mg md mo mt he;subst mg md mo;have ln:(PySem.W.sortI ks).length=ks.length:=(PySem.W.sortI_perm ks).length_eq;refine ⟨.ref l,_,I.laid (t':=t') (λb u g=>mh b u (by simp) g) hl (show ObjOk X.prog X.w _ _ _ (.lst ((PySem.W.sortI ks).map V.int)) from ⟨by rw [ax,ln];have:=fB;omega,out.toList,e,a6t a1,by simpa [seqObj] using he⟩),rfl,q _ (I.hok.fresh hl)⟩
theorem ad9(x:SetI (!byT w) a ks h):ObjOk P w H h a (acl w a ks):=by
 refine ⟨x,?_,λh1 h2 p k=>p.keep k⟩;obtain ⟨o,_,_,_,ho,_⟩:=x;exact ⟨o,ho⟩
end
end L2
set_option maxHeartbeats 1000000
namespace L2
open PyProof.Rows SETB
section
variable{prog:Program}{w:World}{A:Around}{R:Result->Shared->Prop}{s:Shared}{elt t0 i0 t1 i1:Expr}{scope:Scope}{pos:Pos}{it acc:Value}{env:Env}
theorem agw(J:Nat->Shared->Prop)
  (step:∀m z,J m z->wpAny (model prog w) A (pyNext it) (λgot z1=>match got with
   |none=>R (.ok .next) z1
   |some v=>wpAny (model prog w) A (letOwnedTupleGo t1 it v) (λ_ z2=>wpAny (model prog w) A (assign t1 env v) (λ_ z3=>wpAny (model prog w) A (eval elt env) (λx z4 =>
     wpAny (model prog w) A (call (.builtin "set.add") [acc,x]) (λ_ z5=>∃m',m'<m/\J m' z5) (λ_ _=>False) z4)
     (λ_ _=>False) z3) (λ_ _=>False) z2) (λ_ _=>False) z1) (λ_ _=>False) z)
  (m:Nat) (j0:J m s):codeAny (model prog w) A (.compLoop (.SetComp elt [⟨t0,i0,[],0⟩,⟨t1,i1,[],0⟩] scope pos) 1 it acc env) R s:=by
 refine codeAny_loop rfl J (λm z hj=>(wpAny_noted ?_:wpAny _ _ ((compTurn (.SetComp elt [⟨t0,i0,[],0⟩,⟨t1,i1,[],0⟩] scope pos) 1 it acc env).onRaise _) _ _ z)) m j0;show wpAny (model prog w) _ (standAt i1.pos>>=λ_=>pyNext it>>=_) _ _ z
 apply af
 apply de
 apply af
 refine bF (step m z hj) (λgot z1 h1=>?_) λ_ _ no=>no.elim
 match got,h1 with
 |none,h1=>exact ar h1
 |some v,h1 =>
  apply af
  refine bF h1 (λ_ z2 h2=>?_) λ_ _ no=>no.elim
  apply af
  refine bF h2 (λ_ z3 h3=>?_) λ_ _ no=>no.elim;show wpAny (model prog w) _ ((eval elt env>>=λx=>standAt elt.pos>>=λ_=>call (.builtin "set.add") [acc,x]>>=λ_=>pure ())>>=_) _ _ _
  apply af
  apply af
  refine bF h3 (λx z4 h4=>?_) λ_ _ no=>no.elim
  apply af
  apply de
  apply af
  exact bF h4 (λ_ z5 h5=>ar (ar ⟨rfl,h5⟩)) λ_ _ no=>no.elim
theorem ada(h0:codeAny (model prog w) A (.compLoop (.SetComp elt [⟨t0,i0,[],0⟩,⟨t1,i1,[],0⟩] scope pos) 1 it acc env) R s)
  (h:wpAny (model prog w) A (pyIter it) (λit' s'=>codeAny (model prog w) A (.compLoop (.SetComp elt [⟨t0,i0,[],0⟩,⟨t1,i1,[],0⟩] scope pos) 1 it' acc env) R s') (λ_ _=>False) s) :
  codeAny (model prog w) A (.compStart (.SetComp elt [⟨t0,i0,[],0⟩,⟨t1,i1,[],0⟩] scope pos) 1 it acc env) R s:=by
 apply fM
 show wpAny (model prog w) _ ((compStart (.SetComp elt [⟨t0,i0,[],0⟩,⟨t1,i1,[],0⟩] scope pos) 1 it acc env).onRaise _) _ _ s
 apply wpAny_onRaise
 unfold compStart;show wpAny (model prog w) _ (ask>>=_) _ _ s
 apply af
 apply fz
 refine wpAny_ite ?_
 split
 .first
  |exact ar ⟨rfl,h0⟩
  |exact af (ar (ar ⟨rfl,h0⟩))
 .apply af
  apply eU
  show wpAny (model prog w) _ (standAt i1.pos>>=_) _ _ s
  apply af
  apply de
  apply af
  exact bF h (λit' s' h'=>ar ⟨rfl,h'⟩) λ_ _ no=>no.elim
theorem adb(J:Nat->Shared->Prop)
  (step:∀m z,J m z->wpAny (model prog w) A (pyNext it) (λgot z1=>match got with
   |none=>R (.ok .next) z1
   |some v=>wpAny (model prog w) A (letOwnedTupleGo t0 it v) (λ_ z2=>wpAny (model prog w) A (assign t0 env v) (λ_ z3=>wpAny (model prog w) A (eval i1 env) (λx z4 =>
     wpAny (model prog w) A (foldedSetIterable i1 env x) (λy z5=>wpAny (model prog w) A (pyIter y) (λit1 z6 =>
      codeAny (model prog w) A (.compStart (.SetComp elt [⟨t0,i0,[],0⟩,⟨t1,i1,[],0⟩] scope pos) 1 it1 acc env) (λr z7=>∃f,r=.ok f/\∃m',m'<m/\J m' z7) z6) (λ_ _=>False) z5) (λ_ _=>False) z4)
     (λ_ _=>False) z3) (λ_ _=>False) z2) (λ_ _=>False) z1) (λ_ _=>False) z)
  (m:Nat) (j0:J m s):codeAny (model prog w) A (.compLoop (.SetComp elt [⟨t0,i0,[],0⟩,⟨t1,i1,[],0⟩] scope pos) 0 it acc env) R s:=by
 refine codeAny_loop rfl J (λm z hj=>(wpAny_noted ?_:wpAny _ _ ((compTurn (.SetComp elt [⟨t0,i0,[],0⟩,⟨t1,i1,[],0⟩] scope pos) 0 it acc env).onRaise _) _ _ z)) m j0;show wpAny (model prog w) _ (standAt i0.pos>>=λ_=>pyNext it>>=_) _ _ z
 apply af
 apply de
 apply af
 refine bF (step m z hj) (λgot z1 h1=>?_) λ_ _ no=>no.elim
 match got,h1 with
 |none,h1=>exact ar h1
 |some v,h1 =>
  apply af
  refine bF h1 (λ_ z2 h2=>?_) λ_ _ no=>no.elim
  apply af
  refine bF h2 (λ_ z3 h3=>?_) λ_ _ no=>no.elim;show wpAny (model prog w) _ (eval i1 env>>=_) _ _ _
  apply af
  refine bF h3 (λx z4 h4=>?_) λ_ _ no=>no.elim
  apply af
  apply de
  show wpAny (model prog w) _ (foldedSetIterable i1 env x>>=_) _ _ _
  apply af
  refine bF h4 (λy z5 h5=>?_) λ_ _ no=>no.elim;show wpAny (model prog w) _ (holding [y] (pyIter y)>>=_) _ _ _
  apply af
  apply bR
  refine bF h5 (λit1 z6 h6=>?_) λ_ _ no=>no.elim
  apply af
  refine wpAny_runOwn (gu h6 λr z7 h7=>?_);obtain ⟨f,rfl,h8⟩:=h7;exact ar ⟨rfl,h8⟩
end
theorem ajp:eval (.SetComp elt gens scope pos) env =
  comprehension (.SetComp elt gens scope pos) scope env (firstIterPos gens pos) (newSet (.type "set")) (firstAsync gens) (firstIter gens env):=rfl
section
variable{prog:Program}{w:World}{A:Around}{R:Result->Shared->Prop}{s:Shared}{elt t0 i0 t1 i1:Expr}{scope:Scope}{pos:Pos}{it acc:Value}{env:Env}
theorem abu(h0:codeAny (model prog w) A (.compLoop (.SetComp elt [⟨t0,i0,[],0⟩,⟨t1,i1,[],0⟩] scope pos) 0 it acc env) R s)
  (h:wpAny (model prog w) A (pyIter it) (λit' s'=>codeAny (model prog w) A (.compLoop (.SetComp elt [⟨t0,i0,[],0⟩,⟨t1,i1,[],0⟩] scope pos) 0 it' acc env) R s') (λ_ _=>False) s) :
  codeAny (model prog w) A (.compStart (.SetComp elt [⟨t0,i0,[],0⟩,⟨t1,i1,[],0⟩] scope pos) 0 it acc env) R s:=by
 apply fM
 show wpAny (model prog w) _ ((compStart (.SetComp elt [⟨t0,i0,[],0⟩,⟨t1,i1,[],0⟩] scope pos) 0 it acc env).onRaise _) _ _ s
 apply wpAny_onRaise
 unfold compStart;show wpAny (model prog w) _ (ask>>=_) _ _ s
 apply af
 apply fz
 refine wpAny_ite ?_
 split
 .first
  |exact ar ⟨rfl,h0⟩
  |exact af (ar (ar ⟨rfl,h0⟩))
 .apply af
  apply eU
  show wpAny (model prog w) _ (standAt i0.pos>>=_) _ _ s
  apply af
  apply de
  apply af
  exact bF h (λit' s' h'=>ar ⟨rfl,h'⟩) λ_ _ no=>no.elim
end
section
variable{X:Cx}
theorem agx(I:Inv X pins Z H s)
  (hf:∀b∈fp,FpOk X pins H b) (hC:s.heap.objs.size<=C) (hacc:s.heap.objs.size<=acc)
  (J:Inv (cxC X N scope cl C fp s H) [] Z' H' s') (hn:H' acc=none) (hob:ObjOk X.prog X.w (upd H' acc ho) h' acc ho) (sb:Heap.SameBut C s'.heap h') :
  Inv X pins Z (upd H' acc ho) {s' with heap:=h' }:=by
 have k:∀b o,b≠C->s'.heap.get? b=some o->h'.get? b=some o:=λb o hb e=>sb.extBut b o hb e;have old:∀b o,s.heap.get? b=some o->b≠C/\b≠acc:=λb o e=>⟨aV (aM (aG e) hC),aV (aM (aG e) hacc)⟩;have u0:Un (frs X.stack) fp H H' s.heap s'.heap:=J.base;have fC:H' C=none:=J.free;have u:Un (frs X.stack) fp H (upd H' acc ho) s.heap h':=by
  refine ⟨λb o e n' hb hx=>k b o (old b o e).1 (u0.keep b o e n' hb hx),λb o e n' hb hx=>?_,λb o e n' hx=>?_,λb o e hx=>?_,λb xs e=>?_,λb o v e=>?_,λb ps e=>?_⟩
  .obtain ⟨sl,e1⟩:=u0.slot b o e n' hb hx;exact ⟨sl,k b _ (old b o e).1 e1⟩
  .rw [jc (old b o e).2];exact u0.free b o e n' hx
  .obtain ⟨o',e1⟩:=u0.there b o e hx;exact ⟨o',k b _ (old b o e).1 e1⟩
  .rw [jc (gm (u0.tups b xs e) hn)];exact u0.tups b xs e
  .rw [jc (gm (u0.frzs b o v e) hn)];exact u0.frzs b o v e
  .obtain ⟨more,e1⟩:=u0.tbls b ps e;exact ⟨more,by rw [jc (gm e1 hn)];exact e1⟩
 have hok:HOk X.prog X.w (upd H' acc ho) h':=λb o e=>by
  by_cases hb:b=acc
  .subst hb;rw [km] at e;cases e
   exact hob
  .rw [jc hb] at e;refine (J.hok b o e).stay (λc v hc q=>k c v ?_ q) (λc q=>by rw [jc (gm q hn)];exact q) λc xs q=>by rw [jc (gm q hn)];exact q
   rcases hc with z|z
   .rw [z];exact gm e fC
   .exact gm z fC
 have J':=I.call (g':=s'.gens) (t':=s'.toks) (d':=s'.drawn) (ch:=fp) u hok J.bare λb hb=>⟨(hf b hb).2.2.2.1,(hf b hb).2.1,(hf b hb).2.2.2.2.1,(hf b hb).2.2.2.2.2⟩;have eo:s'.os=s.os:=J.os;obtain ⟨hp,g,d,t,o⟩:=s';have eo':o=s.os:=eo;subst eo';exact J'
theorem FpOk.on(f:FpOk Y pins H b)(hp:Y.pn=[])(hn:H' b=none)(ne:b∉L):FpOk Y (xx L h) H' b:=by
 obtain ⟨_,f1,f2,f3,f4,_⟩:=f;refine ⟨hn,f1,f2,f3,f4,λp hq z=>ne ?_⟩;rw [hp] at hq;have:=(aau (show p∈xx L h from hq)).1
 rw [<-z];exact this
def b0e(w:World)(wi1:TI)(s0:St)(g0 g1:TG)(te:TE)(Q:VK)(J0:It)(H1:Hp):Prop :=
 ∃W:Nat->Nat->List Int->Hp->Prop,(∃m,W 0 m [] H1)/\∀i m ks H,W i m ks H->
  (J0.stop i H/\∀p,H p=none->Q (.ref p) (upd H p (acl w p ks))) \/
  (J0.go i H/\∀x H',J0.yld i H x H'->g0 x s0 H' λZ2 H2=>Ext s0 Z2/\wi1 Z2 H2 λJ1 H3=>∃V:Nat->Nat->List Int->Hp->Prop,(∃n,V 0 n ks H3)/\∀j n ks H,V j n ks H->
   (J1.stop j H/\∃m',m'<m/\W (i+1) m' ks H) \/
   (J1.go j H/\∀y H',J1.yld j H y H'->g1 y Z2 H' λZ3 H4=>Ext Z2 Z3/\te Z3 H4 λz H5=>∃k,z=.int k/\ks.length+1<scanBound/\∃n',n'<n/\V (j+1) n' (stepK ks k) H5))
noncomputable def aza(w:World)(wi0 wi1:TI)(s0:St->St)(g0 g1:TG)(te:TE):TE:=λZ H Q=>wi0 Z H λJ0 H1=>b0e w wi1 (s0 Z) g0 g1 te Q J0 H1
theorem ano{Y:Cx}{ac it:Addr}{fp:List Addr}{tn:Nat->Heap->Prop}{J0:It}{Z0:St}{H2:Hp}{s4:Shared}{W:Nat->Nat->List Int->Hp->Prop}{Q:VK}(Yc:Y.calm=true)(no:∀v s,Y.xe v s->False)(Yn:Y.pn=[])(T:Turn Y.prog Y.w Y.K t0 J0 fp it tn)
  (stat:∀{H':Hp},(∀b∈fp,H' b=none)->∀b∈fp,FpOk Y [] H' b) (statA:∀{H':Hp},H' ac=none->FpOk Y [] H' ac) (accF:ac∉fp) (YG0:PG Y t0 g0) (YI1:PI Y t1 i1 wi1) (YG1:PG Y t1 g1) (YE:PE Y elt te) (hs1:∀env x,foldedSetIterable i1 env x=pure x)
  (turn:∀i m ks H,W i m ks H->(J0.stop i H/\∀p,H p=none->Q (.ref p) (upd H p (acl Y.w p ks))) \/
   (J0.go i H/\∀x H',J0.yld i H x H'->g0 x Z0 H' λZ2 H2=>Ext Z0 Z2/\wi1 Z2 H2 λJ1 H3=>∃V:Nat->Nat->List Int->Hp->Prop,(∃n,V 0 n ks H3)/\∀j n ks H,V j n ks H->
    (J1.stop j H/\∃m',m'<m/\W (i+1) m' ks H) \/
    (J1.go j H/\∀y H',J1.yld j H y H'->g1 y Z2 H' λZ3 H4=>Ext Z2 Z3/\te Z3 H4 λz H5=>∃k,z=.int k/\ks.length+1<scanBound/\∃n',n'<n/\V (j+1) n' (stepK ks k) H5)))
  (w0:W 0 m0 [] H2) (K0:Inv Y [] Z0 H2 s4) (st4:tn 0 s4.heap) (f0:∀b∈fp,H2 b=none) (fa:H2 ac=none) (hacc:SetI (!byT Y.w) ac [] s4.heap)
  (fin:∀s6 H6 ks,Inv Y [] Z0 H6 s6->H6 ac=none->SetI (!byT Y.w) ac ks s6.heap->(∀p,H6 p=none->Q (.ref p) (upd H6 p (acl Y.w p ks)))->R (.ok .next) s6) :
  codeAny (model Y.prog Y.w) Y.A (.compLoop (.SetComp elt [⟨t0,i0,[],0⟩,⟨t1,i1,[],0⟩] scope pos) 0 (.ref it) (.ref ac) Y.env) R s4:=by
 refine adb (λn s'=>∃i Z' H' ks,Inv Y [] Z' H' s'/\Ext (Z0) Z'/\tn i s'.heap/\(∀b∈fp,H' b=none)/\H' ac=none /\
  SetI (!byT Y.w) ac ks s'.heap/\W i n ks H') ?_ m0
  ⟨0,_,H2,[],K0,⟨rfl,λ_ _ z=>z⟩,st4,f0,fa,hacc,w0⟩
 rintro n s5 ⟨i,Z5,H5,ks,I5,x5,st5,fr5,fa5,ac5,w5⟩
 have I5':Inv Y [] (Z0) H5 s5:=I5.weak x5.1.symm x5.2;have hao:∃o,s5.heap.get? ac=some o/\∀v,o.data≠.cell v:=by
  obtain ⟨o,es,ep,t,ho,_,hd,_⟩:=ac5;exact ⟨o,ho,λv z=>by rw [hd] at z;cases z⟩
 have I5p:Inv Y (xx [ac] s5.heap) (Z0) H5 s5:=Inv.pinned (pins:=[]) (fp:=[ac]) I5' (λb hb=>by rw [aD.mp hb];exact statA fa5) (λb hb=>by rw [aD.mp hb];exact hao)
 have F5:∀b∈fp,FpOk Y (xx [ac] s5.heap) H5 b:=λb hb=>(stat fr5 b hb).on Yn (fr5 b hb) (λz=>accF (by rw [aD.mp z] at hb;exact hb))
 obtain ⟨ao,hao1,hao2⟩:=hao;have pa:(ac,ao)∈xx [ac] s5.heap:=oh (by simp) hao1
 rcases turn i n ks H5 w5 with ⟨stop,qn⟩|⟨go,step⟩
 .refine thn (T.done Y rfl rfl rfl Yc i _ s5 _ H5 _ I5p F5 st5 stop) ?_
  rintro r s6 ⟨hr,I6⟩
  subst hr;have e6:=(I6.pin (ac,ao) (aR _ pa)).1;have S6:SetI (!byT Y.w) ac ks s6.heap:=ac5.keep λo ho=>by rw [hao1] at ho;cases ho;exact e6
  exact fin s6 H5 ks I6.unpinned' fa5 S6 qn
 .refine thn (T.item Y rfl rfl rfl Yc i _ s5 _ H5 _ I5p F5 st5 go) ?_
  rintro r s6 ⟨u,hr,h6⟩
  subst hr;refine thn h6 ?_
  rintro _ s7 ⟨x,H7,I7,r7,y7,st7,fr7⟩
  have fa7:H7 ac=none:=(I7.pin (ac,ao) (aR _ pa)).2.1;have ac7:=(I7.pin (ac,ao) (aR _ pa)).1;have S7:SetI (!byT Y.w) ac ks s7.heap:=ac5.keep λo ho=>by rw [hao1] at ho;cases ho;exact ac7
  have obj7:∀b∈ac::fp,∃o,s7.heap.get? b=some o/\∀v,o.data≠.cell v:=λb hb=>by
   rcases aC.mp hb with e|e
   .subst e;exact ⟨_,ac7,hao2⟩
   .exact T.obj _ _ st7 b e
  have I7':Inv Y (xx (ac::fp) s7.heap) (Z0) H7 s7:=by
   refine Inv.pinned (pins:=[]) (fp:=ac::fp) I7.unpinned' (λb hb=>?_) obj7
   rcases aC.mp hb with e|e
   .subst e;exact statA fa7
   .exact stat fr7 b e
  refine bF (YG0 _ s7 _ H7 x u _ I7' r7 (step x H7 y7)) (λ_ s8 ⟨Z8,H8,I8,x8,q8⟩=>?_) no;refine bF (YI1 _ s8 _ H8 _ I8 q8) (λv8 z4 h8=>dl (hs1 _ v8) (bF h8 (λitv z6 h9=>?_) no)) no;obtain ⟨it1,fp1,tn1,J1,H9,e1,I9,T1,st9,f9,V,⟨n0,v0⟩,turn1⟩:=h9;subst e1;have pin9:∀b∈ac::fp,∀o,s7.heap.get? b=some o->z6.heap.get? b=some o/\H9 b=none:=λb hb o e=>by
   obtain ⟨z1,z2,_⟩:=I9.pin (b,o) (aR _ (oh hb e));exact ⟨z1,z2⟩
  have apart:∀b∈fp1,b∉ac::fp:=λb hb z=>by
   obtain ⟨o,e,_⟩:=obj7 b z;exact (f9 b hb).2.2.2.2.2 (b,o) (aR _ (oh z e)) rfl
  have stat1:∀{H':Hp},(∀b∈fp1,H' b=none)->∀b∈fp1,FpOk Y [] H' b:=λhn b hb=>by
   obtain ⟨_,k1,k2,k3,k4,_⟩:=f9 b hb;refine ⟨hn b hb,k1,k2,k3,k4,λp hp=>?_⟩;rw [Yn] at hp;exact absurd (show p∈([]:List (Addr×Obj)) from hp) (by simp)
  have S9:SetI (!byT Y.w) ac ks z6.heap:=S7.keep λo ho=>(pin9 ac (by simp) o ho).1
  have inner:codeAny (model Y.prog Y.w) Y.A (.compLoop (.SetComp elt [⟨t0,i0,[],0⟩,⟨t1,i1,[],0⟩] scope pos) 1 (.ref it1) (.ref ac) Y.env)
    (λr z7=>∃f,r=.ok f/\∃m',m'<n/\∃i Z' H' ks,Inv Y [] Z' H' z7/\Ext (Z0) Z'/\tn i z7.heap/\(∀b∈fp,H' b=none)/\H' ac=none/\SetI (!byT Y.w) ac ks z7.heap/\W i m' ks H') z6:=by
   refine agw (λn s'=>∃j Z' H' ks,Inv Y [] Z' H' s'/\Ext Z8 Z'/\tn1 j s'.heap/\(∀b∈fp1,H' b=none)/\(∀b∈fp,∀o,s7.heap.get? b=some o->s'.heap.get? b=some o/\H' b=none)/\H' ac=none/\SetI (!byT Y.w) ac ks s'.heap/\V j n ks H') ?_ n0
    ⟨0,_,H9,ks,I9.unpinned',⟨rfl,λ_ _ z=>z⟩,st9,λb hb=>(f9 b hb).1,λb hb=>pin9 b (ay _ hb),(pin9 ac (by simp) _ ac7).2,S9,v0⟩
   rintro k a5 ⟨j,τ5,G5,ks5,Q5,y5,t5,e5,o5,c5,d5,v5⟩
   have Q5':Inv Y [] Z8 G5 a5:=Q5.weak y5.1.symm y5.2;have fp5:∀b∈fp,G5 b=none:=λb hb=>by
    obtain ⟨o,e,_⟩:=T.obj _ _ st7 b hb;exact (o5 b hb o e).2
   have dob:∃o,a5.heap.get? ac=some o/\∀v,o.data≠.cell v:=by
    obtain ⟨o,es,ep,t,ho,_,hd,_⟩:=d5;exact ⟨o,ho,λv z=>by rw [hd] at z;cases z⟩
   have objs:∀b∈ac::fp,∃o,a5.heap.get? b=some o/\∀v,o.data≠.cell v:=λb hb=>by
    rcases aC.mp hb with e|e
    .subst e;exact dob
    .obtain ⟨o,e',d⟩:=T.obj _ _ st7 b e;exact ⟨o,(o5 b e o e').1,d⟩
   have Q5p:Inv Y (xx (ac::fp) a5.heap) Z8 G5 a5:=by
    refine Inv.pinned (pins:=[]) (fp:=ac::fp) Q5' (λb hb=>?_) objs
    rcases aC.mp hb with e|e
    .subst e;exact statA c5
    .exact stat fp5 b e
   have FF:∀b∈fp1,FpOk Y (xx (ac::fp) a5.heap) G5 b:=λb hb=>(f9 b hb).on Yn (e5 b hb) (apart b hb);obtain ⟨bo,hbo1,hbo2⟩:=dob;have keep6:∀{G6:Hp} {τ:St} {a6:Shared} {P:List (Addr×Obj)},Inv Y (xx (ac::fp) a5.heap++P) τ G6 a6->(∀b∈fp,∀o,s7.heap.get? b=some o->a6.heap.get? b=some o/\G6 b=none)/\G6 ac=none/\SetI (!byT Y.w) ac ks5 a6.heap:=λ{G6 τ a6 P} I6=>by
    refine ⟨λb hb o e=>?_,?_,?_⟩
    .obtain ⟨z1,z2,_⟩:=I6.pin (b,o) (aR _ (dn _ (oh (ay _ hb) (o5 b hb o e).1)));exact ⟨z1,z2⟩
    .exact (I6.pin (ac,bo) (aR _ (dn _ (oh (by simp) hbo1)))).2.1
    .exact d5.keep λo ho=>by
      rw [hbo1] at ho;cases ho
      exact (I6.pin (ac,bo) (aR _ (dn _ (oh (by simp) hbo1)))).1
   rcases turn1 j k ks5 G5 v5 with ⟨stop1,m',hm',w6⟩|⟨go1,step1⟩
   .refine thn (T1.done Y rfl rfl rfl Yc j _ a5 _ G5 _ Q5p FF t5 stop1) ?_
    rintro r a6 ⟨hr,Q6⟩
    subst hr;obtain ⟨kk1,kk2,kk3⟩:=keep6 (P:=[]) (by rw [bL];exact Q6)
    refine ⟨_,rfl,m',hm',i+1,Z8,G5,ks5,Q6.unpinned',x8,?_,fp5,c5,kk3,w6⟩;exact T.keep _ _ _ st7 λb hb o e=>(kk1 b hb o e).1
   .refine thn (T1.item Y rfl rfl rfl Yc j _ a5 _ G5 _ Q5p FF t5 go1) ?_
    rintro r a6 ⟨u1,hr,h6'⟩
    subst hr;refine thn h6' ?_
    rintro _ a7 ⟨y,G7,Q7,ry,yy,t7,e7⟩
    obtain ⟨p1,p2,p3⟩:=keep6 (P:=[]) (by rw [bL];exact Q7)
    have Q7p:Inv Y (xx (ac::fp) a5.heap++xx fp1 a7.heap) Z8 G7 a7:=by
     refine Inv.pinned (fp:=fp1) Q7 (λb hb=>(f9 b hb).on Yn (e7 b hb) (apart b hb)) (T1.obj _ _ t7)
    refine bF (YG1 _ a7 _ G7 y u1 _ Q7p ry (step1 y G7 yy)) (λ_ a8 ⟨τ8,G8,Q8,z8,q8'⟩=>?_) no;refine bF (YE _ a8 _ G8 _ Q8 q8') (λyv a9 ⟨z,G9,Q9,rz,kz,ez,few,n',hn',v9⟩=>?_) no;subst ez;obtain ⟨tk,rfl⟩:=rz;obtain ⟨r1,r2,r3⟩:=keep6 Q9;refine ank r3 few λh' sb x'=>?_;have qo:∀b o,b≠ac->a9.heap.get? b=some o->h'.get? b=some o:=λb o hb e=>sb.extBut b o hb e;obtain ⟨a0,a1,a2,a3,a4,a5'⟩:=statA (show G9 ac=none from r2)
    have nac:∀b∈fp,b≠ac:=λb hb z=>accF (z ▸ hb);have nac1:∀b∈fp1,b≠ac:=λb hb z=>apart b hb (by rw [z];simp)
    refine ⟨n',hn',j+1,τ8,G9,_,(Q9.unpinned').turned (t':=a9.toks+1) qo a0 a1 a3 a4 a5',z8,?_,?_,?_,r2,x',v9⟩
    .exact T1.keep _ _ _ t7 λb hb o e=>qo b o (nac1 b hb) (Q9.pin (b,o) (aR _ (aR _ (oh hb e)))).1
    .intro b hb
     obtain ⟨o,e,_⟩:=T1.obj _ _ t7 b hb;exact (Q9.pin (b,o) (aR _ (aR _ (oh hb e)))).2.1
    .intro b hb o e
     obtain ⟨z1,z2⟩:=r1 b hb o e;exact ⟨qo b o (nac b hb) z1,z2⟩
  exact ada inner (T1.self _ 0 _ _ _ st9 inner)
theorem arz(hc:X.calm=true)(S:CSc X scope cl ts fr ix)(hi0:PI X t0 i0 wi0)
  (hg0:∀C fp s H,PG (cxC X (ts++fr) scope cl C fp s H) t0 g0) (hi1:∀C fp s H,PI (cxC X (ts++fr) scope cl C fp s H) t1 i1 wi1) (hg1:∀C fp s H,PG (cxC X (ts++fr) scope cl C fp s H) t1 g1) (he:∀C fp s H,PE (cxC X (ts++fr) scope cl C fp s H) elt te)
  (hs0:∀x,foldedSetIterable i0 X.env x=pure x:=by intro _;rfl) (hs1:∀env x,foldedSetIterable i1 env x=pure x:=by intro _ _;rfl) :
  PE X (.SetComp elt [⟨t0,i0,[],0⟩,⟨t1,i1,[],0⟩] scope pos) (aza X.w wi0 wi1 (uo ts.length ix) g0 g1 te):=by
 intro pins s Z H Q I h
 rw [ajp];refine fG (use:=none) rfl hs0 S.clos S.kind S.names (thn (hi0 pins s Z H _ I h) λv s1 h1=>thn h1 λitv s2 h2=>?_);obtain ⟨it,fp,tn,J,H2,e,I2,T,st2,f2,W,⟨m0,w0⟩,turn⟩:=h2;subst e;have hob:∀b∈fp,b<s2.heap.objs.size:=λb hb=>let ⟨o,e,_⟩:=T.obj _ _ st2 b hb;aG e;refine a9q (wpAny_newFunctionEnv S.nocell (by intro y hy;simp at hy) (λh4 hns4 hsb4=>?_) S.kind)
 dsimp only at hns4 hsb4 ⊢
 generalize hH2:s2.heap.push (a1i (!byT X.w))=G at hns4 hsb4 ⊢
 have hCs:G.objs.size=s2.heap.objs.size+1:=by rw [<-hH2,cB]
 have hCle:s2.heap.objs.size<=G.objs.size:=by omega
 have hne:G.objs.size≠s2.heap.objs.size:=by omega
 have old:∀b o,s2.heap.get? b=some o->h4.get? b=some o:=λb o e=>by
  have hlt:=aG e;exact hsb4.extBut b o (aV (aM hlt hCle)) (ai _ (hH2 ▸ ai _ e))
 have hacc:SetI (!byT X.w) s2.heap.objs.size [] h4 :=
  ad7 (hsb4.extBut _ _ (ee hne) (ai _ (hH2 ▸ aJ _ rfl)))
 have K0:Inv (cxC X (ts++fr) scope cl G.objs.size fp s2 H2) [] (uo ts.length ix Z) H2 {s2 with heap:=h4,toks:=s2.toks+([]:List (Str×Value)).length} :=
  aib S I2 f2 hob hCle old hns4 rfl rfl
 have st4:tn 0 h4:=T.keep _ _ _ st2 λb _ o e=>old b o e;have accF:s2.heap.objs.size∉fp:=λz=>bC _ (hob _ z);have stat:∀{H':Hp},(∀b∈fp,H' b=none)->∀b∈fp,FpOk (cxC X (ts++fr) scope cl G.objs.size fp s2 H2) [] H' b:=λhn b hb =>
  ⟨hn b hb,λz=>by have h1:=hob b hb;have z':b=G.objs.size:=z;exact aV (aM h1 hCle) z',λz=>(ab5 S I2 f2 hob hCle).exfs b hb z,.inl hb,λx c e=>(f2 b hb).2.2.2.2.1 x c (S.sub x c e),λp hp=>absurd (show p∈([]:List (Addr×Obj)) from hp) (by simp)⟩
 have statA:∀{H':Hp},H' s2.heap.objs.size=none->FpOk (cxC X (ts++fr) scope cl G.objs.size fp s2 H2) [] H' s2.heap.objs.size:=λhn =>
  ⟨hn,λz=>hne (show G.objs.size=s2.heap.objs.size from z.symm),λz=>by
   obtain ⟨_,o,ho,_⟩:=(ab5 S I2 f2 hob hCle).funs.mem z;exact bC _ (aG ho),.inr (aA _),λx c e z=>by
   obtain ⟨v,o,ho,_⟩:=I2.cell x c (S.sub x c e);rw [z] at ho;exact bC _ (aG ho),λp hp=>absurd (show p∈([]:List (Addr×Obj)) from hp) (by simp)⟩
 have loop:codeAny (model X.prog X.w) X.A (.compLoop (.SetComp elt [⟨t0,i0,[],0⟩,⟨t1,i1,[],0⟩] scope pos) 0 (.ref it) (.ref s2.heap.objs.size) (compEnvC scope cl G.objs.size X.env))
   (compPost (model X.prog X.w) X.A X.xe none (EP X pins Z Q) (.ref s2.heap.objs.size) G.objs.size) {s2 with heap:=h4,toks:=s2.toks+([]:List (Str×Value)).length} :=
  ano (Y:=cxC X (ts++fr) scope cl G.objs.size fp s2 H2) hc (λ_ _ h=>h) rfl T stat statA accF (hg0 _ _ _ _) (hi1 _ _ _ _) (hg1 _ _ _ _) (he _ _ _ _) hs1 turn w0 K0 st4 (λb hb=>(f2 b hb).1) (I2.hok.fresh (aA _)) hacc λs6 H6 ks I6 fa S6 qn=>by
   obtain ⟨m6,hn6,_⟩:=I6.loc;refine aeb (X:=X) s2.heap.objs.size G.objs.size s6 (upd H6 s2.heap.objs.size (acl X.w s2.heap.objs.size ks)) m6 hn6 (I2.fpOk hCle (by rw [jc hne];exact I6.free)) (λh' sb=>?_) (qn _ fa)
   exact agx I2 f2 hCle (aA _) I6 fa (ad9 (S6.keep λo ho=>sb.extBut _ _ (ee hne) ho)) sb
 exact abu loop (T.self _ 0 _ _ _ st4 loop)
end
end L2
namespace MI
open L2 SETB
open Classical in
def setIn(ck:Hd->Prop)(fe:SE)(x:D)(rd:Sd):List D->List Int->Hd->R (List Int)
 |[],ks,h=>if ck h then .ok ks h else .no
 | y::ys,ks,h=>if ck h then (fe (some x::some y::rd) h).bind λd h1=>(match d with
   |.int k=>if ks.length<63 then setIn ck fe x rd ys (stepK ks k) h1 else .no
   |_=>.no) else .no
open Classical in
def a3c(ck:Hd->Prop)(fj:SI)(fe:SE)(rd:Sd):List D->List Int->Hd->R (List Int)
 |[],ks,h=>if ck h then .ok ks h else .no
 |x::xs,ks,h=>if ck h then (fj (some x::none::rd) h).bind λjt h1=>(setIn jt.ck fe x rd jt.xs ks h1).bind λks1 h2=>a3c ck fj fe rd xs ks1 h2 else .no
noncomputable def agy(ks:List Int)(h:Hd):R D:=if ks.length<64 then .ok (.ref h.length) (h++[.lst ((PySem.W.sortI ks).map D.int)]) else .no
def ajq(fi fj:SI)(fe:SE)(ix:List Nat):SE:=λτ h=>(fi τ h).bind λit h1=>(a3c it.ck fj fe (frs' ix τ) it.xs [] h1).bind agy
theorem a09:∀{K:PySem.W.Frag} {U:List Addr} {H:Hp} (ns:List Int),Reps K U H (ns.map V.int) (ns.map D.int)
 |_,_,_,[]=>.nil
 |_,_,_,n::ns=>.cons (.int n) (a09 ns)
def b1q(w:World):List V->Hp->VK->Prop:=λxs H Q=>∃(p:Addr) (ks:List Int),xs=[.ref p]/\H p=some (acl w p ks)/\ks.length<64/\∀l,H l=none->Q (.ref l) (upd H l (.lst ((PySem.W.sortI ks).map V.int)))
theorem aw1{K:PySem.W.Frag}{E:XD}{w:World}{J:It}{jt:Itm}{fe:SE}{x:D}{vx:V}{r:St}{rd:Sd}{k1:List Int->Hd->R D}{U0:List Addr}{H0:Hp}{h0:Hd}{Q:VK}{M:List Int->Hp->Prop}{ks0:List Int}
  (ir:alr K U0 H0 J jt) (rx:Rep K U0 H0 vx x) (S:SRep K U0 H0 r rd) (Rh:HRep K U0 H0 h0) (o:out K E (yx K) U0 H0 ((setIn jt.ck fe x rd jt.xs ks0 h0).bind k1) Q)
  (fin:∀ks U H h,Gr U0 H0 U H->HRep K U H h->out K E (yx K) U H (k1 ks h) Q->M ks H) :
  ∃V:Nat->Nat->List Int->Hp->Prop,(∃n,V 0 n ks0 H0)/\∀j n ks H,V j n ks H->
   (J.stop j H/\M ks H) \/
   (J.go j H/\∀y H',J.yld j H y H'->a1d 1 y (some vx::none::r) H' λZ3 H4=>L2.Ext (some vx::none::r) Z3/\lift K E (yx K) fe Z3 H4 λz H5=>∃k,z=.int k/\ks.length+1<scanBound/\∃n',n'<n/\V (j+1) n' (stepK ks k) H5):=by
 refine ⟨λj n ks H=>n=jt.xs.length-j/\j<=jt.xs.length/\∃U h,Gr U0 H0 U H/\HRep K U H h/\out K E (yx K) U H ((setIn jt.ck fe x rd (jt.xs.drop j) ks h).bind k1) Q,⟨_,rfl,bq _,U0,h0,.refl _ _,Rh,o⟩,?_⟩
 rintro j n ks H ⟨rfl,hj,U,h,g0,Rh,o⟩
 by_cases hlt:j<jt.xs.length
 .rw [bT hlt,setIn] at o
  by_cases hc:jt.ck h
  .rw [aE hc,R.bind_assoc] at o;obtain ⟨go,yl⟩:=(ir U H h g0 Rh hc).1 j _ (ag hlt);refine .inr ⟨go,λy H' yy=>?_⟩;obtain ⟨g1,r1,hr1⟩:=yl y H' yy;have o':=zr o g1;refine ⟨⟨rfl,λi v e=>?_⟩,U,some x::some jt.xs[j]::rd,h,vg (rx.mono (g0.trans g1)) (vg r1 (S.mono (g0.trans g1))),hr1,dh o' λd h1 U1 H1 u g2 r2 hr2 o2=>?_⟩
   .match i,e with
    |0,e=>exact e
    |1,e=>simp at e
    |i+2,e=>simpa using e
   .cases d with
    |int k =>
     cases r2
     by_cases h6:ks.length<63
     .simp only [aE h6] at o2;exact ⟨k,rfl,by have:scanBound=4096:=rfl;omega,jt.xs.length-(j+1),by omega,rfl,hlt,U1,h1,(g0.trans g1).trans g2,hr2,o2⟩
     .simp only [aS h6] at o2;exact o2.elim
    |_=>exact o2.elim
  .rw [aS hc] at o;exact o.elim
 .have e:j=jt.xs.length:=by omega
  subst e;rw [bJ (aA _),setIn] at o
  by_cases hc:jt.ck h
  .rw [aE hc] at o;exact .inl ⟨(ir U H h g0 Rh hc).2,fin ks U H h g0 Rh o⟩
  .rw [aS hc] at o;exact o.elim
theorem as3
  (ir:alr K U0 H0 J it) (S:SRep K U0 H0 r rd) (Rh:HRep K U0 H0 h0) (o:out K E (yx K) U0 H0 ((a3c it.ck fj fe rd it.xs [] h0).bind agy) Q) :
  b0e w (lift K E (av4 K) fj) (List.replicate 2 none++r) (a1d 0) (a1d 1) (lift K E (yx K) fe) (λv H=>b1q w [v] H Q) J H0:=by
 refine ⟨λi m ks H=>m=it.xs.length-i/\i<=it.xs.length/\∃U h,Gr U0 H0 U H/\HRep K U H h/\out K E (yx K) U H ((a3c it.ck fj fe rd (it.xs.drop i) ks h).bind agy) Q,⟨_,rfl,bq _,U0,h0,.refl _ _,Rh,o⟩,?_⟩
 rintro i m ks H ⟨rfl,hi,U,h,g0,Rh,o⟩
 by_cases hlt:i<it.xs.length
 .rw [bT hlt,a3c] at o
  by_cases hc:it.ck h
  .rw [aE hc,R.bind_assoc] at o;obtain ⟨go,yl⟩:=(ir U H h g0 Rh hc).1 i _ (ag hlt);refine .inr ⟨go,λx H' y=>?_⟩;obtain ⟨g1,r1,hr1⟩:=yl x H' y;have o':=zr o g1;refine ⟨⟨rfl,λk v e=>?_⟩,U,some it.xs[i]::none::rd,h,vg r1 ?_,hr1,dh o' λjt h1 U1 H1 J1 g2 r2 hr2 o2=>?_⟩
   .match k,e with
    |0,e=>simp at e
    |1,e=>simp at e
    |k+2,e=>simpa using e
   .have S':=S.mono (g0.trans g1);refine ⟨by simp [S'.len],λk d e=>?_⟩
    cases k with
    |zero=>simp at e
    |succ k=>simpa using S'.val k d (by simpa using e)
   .rw [R.bind_assoc] at o2;refine aw1 (w:=w) (k1:=λks1 h2=>(a3c it.ck fj fe rd (it.xs.drop (i+1)) ks1 h2).bind agy) r2 (r1.mono g2) (S.mono ((g0.trans g1).trans g2)) hr2 o2 λks' U3 H3 h3 g3 hr3 o3=>?_;exact ⟨it.xs.length-(i+1),by omega,rfl,hlt,U3,h3,((g0.trans g1).trans g2).trans g3,hr3,o3⟩
  .rw [aS hc] at o;exact o.elim
 .have e:i=it.xs.length:=by omega
  subst e;rw [bJ (aA _),a3c] at o
  by_cases hc:it.ck h
  .rw [aE hc] at o;refine .inl ⟨(ir U H h g0 Rh hc).2,λp hp=>?_⟩;have o1:out K E (yx K) U H (agy ks h) Q:=o;unfold agy at o1
   by_cases h6:ks.length<64
   .rw [aE h6] at o1;exact ⟨p,ks,rfl,km,h6,yf (E:=E) (a09 _) (Rh.aside hp _) (zr o1 (zf hp _))⟩
   .rw [aS h6] at o1;exact o1.elim
  .rw [aS hc] at o;exact o.elim
theorem ajr{X:Cx}{E:XD}{elt t0 i0 t1 i1:Expr}{scope:Scope}{p pos spos:Pos}{cl:List (Str×Addr)}{a b:Str}{fr:List Str}{ix:List Nat}{fi fj:SI}{fe:SE}(hg:Gl X "sorted")(hm:X.mg "sorted" = none)(hc:X.calm=true)(S:CSc X scope cl [a,b] fr ix)(hi:MI X E t0 i0 fi)
  (hg0:∀C fp s H,PG (cxC X ([a,b]++fr) scope cl C fp s H) t0 (a1d 0)) (hj:∀C fp s H,MI (cxC X ([a,b]++fr) scope cl C fp s H) E t1 i1 fj) (hg1:∀C fp s H,PG (cxC X ([a,b]++fr) scope cl C fp s H) t1 (a1d 1)) (he:∀C fp s H,ME (cxC X ([a,b]++fr) scope cl C fp s H) E elt fe)
  (hs0:∀x,foldedSetIterable i0 X.env x=pure x:=by intro _;rfl) (hs1:∀env x,foldedSetIterable i1 env x=pure x:=by intro _ _;rfl) :
  ME X E (.Call (.Name "sorted" p) [.SetComp elt [⟨t0,i0,[],0⟩,⟨t1,i1,[],0⟩] scope spos] [] pos) (ajq fi fj fe ix):=by
 refine PE.weak (a68 (a08 hc) hg hm rfl (xf (arz (te:=lift X.K E (yx X.K) fe) (wi1:=lift X.K E (av4 X.K) fj) hc S hi hg0 hj hg1 he hs0 hs1) a3a)) ?_
 rintro Z H Q ⟨U,τ,h,Sr,Rh,o⟩
 refine ⟨U,τ,h,Sr,Rh,dh o λit h1 U1 H1 J g1 r1 hr1 o1=>?_⟩;exact as3 r1 (a6b (Sr.mono g1) ix) hr1 o1
end MI
set_option maxHeartbeats 1000000
namespace SETB
open PyProof.Rows SETA PySem.Builtin
section
variable{prog:Program}{w:World}{E:Value->Shared->Prop}{A:Around}{s:Shared}{a:Addr}{o:Obj}{es:Array (Int×Value)}{ep:Nat}{t:SetTable}
theorem af6(ho:s.heap.get? a=some o)(hd:o.data=.set es ep t)(hf:t.fits es.size=true)(pl:t.plain=true)(ld:t.led = !byT w)(q:Q (a8v w a ep es) s):wpAny (model prog w) A (setWalk a) Q E s:=by
 unfold a8v at q
 cases bt:byT w with
 |true =>
  rw [bt] at q;exact a7m ho hd hf bt q
 |false =>
  rw [bt] at q ld;unfold setWalk
  apply af
  apply bI ho hd hf
  apply af
  apply a5h
  simp only [bt,bi,dC];refine dl ?_ q;refine ap (aS (c:=(!t.plain && decide (es.size > 1))=true) (by rw [pl];simp)) ?_
  refine ap (ah (λz:Sem Unit=>z>>=λ_=>pure es) (aS (c:=(!t.led && decide (es.size > 1))=true) (by rw [ld];simp))) ?_
  rfl
theorem adc{Q:Array (Int×Value)->Shared->Prop}{os:List Addr}{f:Option Addr}(ho:s.heap.get? a=some o)(hd:o.data=.set es ep t)(hf:t.fits es.size=true)(pl:t.plain=true)(ld:t.led = !byT w)(q:Q (a8v w a ep es) s):wpAny (model prog w) A (setWalkUnseen a os f) Q E s:=by
 unfold setWalkUnseen;refine af (bI ho hd hf (af (a5h ?_)));dsimp only;have c:(byT w || t.led && t.plain || decide (es.size<=1))=true:=by rw [pl,ld];cases byT w<;>rfl
 rw [aE c]
 first|exact af6 ho hd hf pl ld q|exact af (af6 ho hd hf pl ld (ar q))
def SetX(b:Bool)(a:Addr)(ks:List Int)(more:Nat)(h:Heap):Prop :=
 ∃o es ep t,h.get? a=some o/\o.ExactSet/\o.data=.set es ep t/\AllI es.toList/\(es.toList.map kOf).Perm ks/\es.size<scanBound/\t.fits es.size=true/\Gr t/\t.led=b/\(t.fill+more)*5<t.mask*3
theorem anp(h:n<=16384):SetTable.sizeAbove n<=sizeLine:=by
 have:∀(fuel size:Nat),size<=32768->SetTable.sizeAbove.go n fuel size<=32768:=λfuel=>by
  induction fuel with
  |zero=>intro size hs;exact hs
  |succ f ih =>
   intro size hs
   unfold SetTable.sizeAbove.go
   split
   .exact ih _ (by omega)
   .exact hs
 have h1:=this 64 8 (by decide)
 have h2:SetTable.sizeAbove n=SetTable.sizeAbove.go n 64 8:=rfl;rw [fB,h2];omega
theorem anq(hS:SetI b a ks s.heap)(hn:(ks.length+more)*2<=n)(pos:0<ks.length+more)(n1:n<=16384)
  (q:∀h',Heap.SameBut a s.heap h'->SetX b a ks more h'->Q () {s with heap:=h' }):wpAny (model prog w) A (setRelay a n) Q E s:=by
 obtain ⟨o,es,ep,t,ho,hex,hd,al,pm,sz,ft,gd,ld⟩:=hS;have lk:es.size=ks.length:=by have:=pm.length_eq;rwa [ax,aO] at this
 obtain ⟨b',h3,eb,lb⟩:=SETH.above (n:=n) (by omega)
 have p8:2^3<=2^b':=dA (by decide) h3
 have hk:SetTable.sizeAbove n-1+1=2^b':=by omega
 obtain ⟨t',od,e,hm,hdm,hp,hs,hl,hod⟩:=SETH.a7j (f:=t.finger) (m:=t.movedTo (SetTable.sizeAbove n-1)) (l:=t.led) (p:=t.plain) hk (es.map (·.1)) (by rw [fv];omega)
 rw [fv] at hs hod;have ld':t'.led=t.led:=by
  have:=ah (Option.map λz=>z.1.led) e
  unfold SetTable.laid at this
  cases hc:SetTable.layClean (SetTable.sizeAbove n-1) (es.map (·.1)) with
  |none=>rw [hc] at this;cases this
  |some ow=>rw [hc] at this;exact (bK this).symm
 have gd':=(a9n e).1;have szo:(od.filterMap (es[·]?)).size=es.size:=by
  rw [<-aO,dJ,SETH.af4 _ λx hx=>bE.mp (hod.mem_iff.mp hx),hod.length_eq,aF]
 have po:(od.filterMap (es[·]?)).toList.Perm es.toList:=by
  rw [dJ];refine (hod.filterMap _).trans ?_;have:(List.range es.size).filterMap (es[·]?)=es.toList:=by
   have e2:∀l:List (Int×Value),(List.range l.length).filterMap (l[·]?)=l:=λl=>by
    induction l with
    |nil=>rfl
    |cons x l ih =>
     rw [aH,fV,cE];show x::List.filterMap _ (List.map Nat.succ (List.range l.length))=_;rw [eI];exact ah (x::·) ih
   have:=e2 es.toList
   rw [aO] at this;simpa using this
  rw [this]
 have fl:=SETH.a2b gd';have ft':t'.fits (od.filterMap (es[·]?)).size=true:=by
  unfold SetTable.fits;rw [fl,szo,hs];have:es.size<=t'.mask:=by omega
  simp [this]
 unfold setRelay;refine af (bI ho hd ft ?_);dsimp only;rw [aS (Nat.not_lt.mpr (anp n1))];have rl:t.relaid (es.map (·.1)) n=some (t',od):=e;have sx:(od.filterMap (es[·]?)).size<scanBound:=by omega
 refine af (dl (a:=(od.filterMap (es[·]?),t')) ?_ ?_)
 .rw [rl];exact aS (c:=(od.filterMap (es[·]?)).size != es.size) (by rw [szo];simp)
 .refine eX ho hd (q _ (bP s.heap a _) ?_) (eY sx);have gg:Gr t':=⟨⟨gd',⟨b',by rw [hm];exact hk⟩,by rw [hm];omega,λi hi=>by rw [hm];exact hl i hi,hp.trans gd.1.plain⟩,by omega⟩
  obtain ⟨o1,es1,ep1,t1,q1,q2,q3,q4,q5,q6,q7,q8,q9⟩:=stored prog w ho hex hd (λe he=>al e (po.mem_iff.mp he)) ((po.map kOf).trans pm) sx ft' gg (ld'.trans ld);obtain ⟨o2,ep2,w1,w2,w3⟩:=held prog w ho hex hd (λe he=>al e (po.mem_iff.mp he)) sx ft';rw [q1] at w1;cases w1
  rw [q3] at w3;cases w3
  exact ⟨o1,_,_,_,q1,q2,q3,q4,q5,q6,q7,q8,q9,by omega⟩
theorem as4(hS:SetI b a ks s.heap)(pos:0<more)(few:ks.length+more<8000)
  (q:∀h',Heap.SameBut a s.heap h'->SetX b a ks more h'->Q () {s with heap:=h' }):wpAny (model prog w) A (setRoomFor a more) Q E s:=by
 have hS':=hS;obtain ⟨o,es,ep,t,ho,hex,hd,al,pm,sz,ft,gd,ld⟩:=hS';have lk:es.size=ks.length:=by have:=pm.length_eq;rwa [ax,aO] at this
 unfold setRoomFor;refine af (bI ho hd ft ?_);dsimp only;unfold SetTable.roomFor;have ps:=size_of ft
 by_cases h:(t.fill+more)*5≥t.mask*3
 .rw [aE h];exact anq hS (by omega) (by omega) (by omega) q
 .rw [aS h];exact ar (q _ (eR a s.heap) ⟨o,es,ep,t,ho,hex,hd,al,pm,sz,ft,gd,ld,by omega⟩)
end
end SETB
set_option maxHeartbeats 1000000
namespace SETB
open PyProof.Rows SETA PySem.Builtin
theorem ajs{ks:List Int}(p:ks.Perm ls)(x:Int):(L2.stepK ks x).Perm (L2.stepK ls x):=by
 unfold L2.stepK
 by_cases h:x∈ks
 .rw [aE h,aE (p.mem_iff.mp h)];exact p
 .rw [aS h,aS λz=>h (p.mem_iff.mpr z)];exact p.append_right _
theorem as5{ks:List Int}(p:ks.Perm ls):∀ms:List Int,(ms.foldl L2.stepK ks).Perm (ms.foldl L2.stepK ls):=λms=>by
 induction ms generalizing ks ls with
 |nil=>exact p
 |cons x ms ih=>exact ih (ajs p x)
theorem af7{x y:Int}:y∈L2.stepK ks x↔y∈ks\/y=x:=by
 unfold L2.stepK
 split
 .rename_i h;exact ⟨.inl,λz=>z.elim id λe=>e ▸ h⟩
 .simp
theorem ajt(ks:List Int)(x y:Int):(L2.stepK (L2.stepK ks x) y).Perm (L2.stepK (L2.stepK ks y) x):=by
 by_cases hx:x∈ks
 .have e1:L2.stepK ks x=ks:=aE hx;have e2:L2.stepK (L2.stepK ks y) x=L2.stepK ks y:=aE (af7.mpr (.inl hx));rw [e1,e2]
 .by_cases hy:y∈ks
  .have e1:L2.stepK ks y=ks:=aE hy;have e2:L2.stepK (L2.stepK ks x) y=L2.stepK ks x:=aE (af7.mpr (.inl hy));rw [e1,e2]
  .by_cases e:x=y
   .subst e;exact .refl _
   .have e1:L2.stepK ks x=ks++[x]:=aS hx;have e2:L2.stepK ks y=ks++[y]:=aS hy;have e3:L2.stepK (ks++[x]) y=ks++[x]++[y]:=aS (by simp [hy,ee e])
    have e4:L2.stepK (ks++[y]) x=ks++[y]++[x]:=aS (by simp [hx,e])
    rw [e1,e2,e3,e4,cM,cM];exact (List.Perm.swap y x []).append_left ks
theorem aju{ms:List Int}(p:ms.Perm ls):∀ks:List Int,(ms.foldl L2.stepK ks).Perm (ls.foldl L2.stepK ks):=by
 induction p with
 |nil=>exact λ_=>.refl _
 |cons x _ ih=>exact λks=>ih _
 |swap x y l=>exact λks=>as5 (ajt ks y x) l
 |trans _ _ a b=>exact λks=>(a ks).trans (b ks)
theorem ade:∀{ms ks:List Int},(ks++ms).Nodup->ms.foldl L2.stepK ks=ks++ms
 |[],ks,_=>by simp
 |m::ms,ks,h=>by
  have nm:m∉ks:=λz=>(bQ.mp h).2.2 m z m (by simp) rfl
  rw [dH,show L2.stepK ks m=ks++[m] from aS nm,ade (by simpa using h)]
  simp
theorem SetI.perm(x:SetI b a ks h)(p:ks.Perm ls):SetI b a ls h:=by
 obtain ⟨o,es,ep,t,h1,h2,h3,h4,h5,h6⟩:=x;exact ⟨o,es,ep,t,h1,h2,h3,h4,h5.trans p,h6⟩
theorem SetX.i(x:SetX b a ks m h):SetI b a ks h:=by
 obtain ⟨o,es,ep,t,h1,h2,h3,h4,h5,h6,h7,h8,h9,_⟩:=x;exact ⟨o,es,ep,t,h1,h2,h3,h4,h5,h6,h7,h8,h9⟩
theorem anr(e:SetTable.laid mask f m l p hs=some (t',od)):t'.led=l:=by
 have:=ah (Option.map λz=>z.1.led) e
 unfold SetTable.laid at this
 cases hc:SetTable.layClean mask hs with
 |none=>rw [hc] at this;cases this
 |some ow=>rw [hc] at this;exact (bK this).symm
theorem agz{es:Array (Int×Value)}{od:Array Nat}(hod:od.toList.Perm (List.range es.size)):(od.filterMap (es[·]?)).toList.Perm es.toList:=by
 rw [dJ];refine (hod.filterMap _).trans ?_;have e2:∀l:List (Int×Value),(List.range l.length).filterMap (l[·]?)=l:=λl=>by
  induction l with
  |nil=>rfl
  |cons x l ih =>
   rw [aH,fV,cE];show x::List.filterMap _ (List.map Nat.succ (List.range l.length))=_;rw [eI];exact ah (x::·) ih
 have:=e2 es.toList
 rw [aO] at this;have:(List.range es.size).filterMap (es[·]?)=es.toList:=by simpa using this
 rw [this]
section
variable{prog:Program}{w:World}{E:Value->Shared->Prop}{A:Around}{s:Shared}{a c:Addr}
theorem af8(hb:b = !byT w)(hS:SetI b a ks s.heap)(hO:SetI b c ms s.heap)(ne:a≠c)(nd:ms.Nodup)(few:ks.length+ms.length+1<scanBound)
  (he:∀(s':Shared) (Q':Unit->Shared->Prop),s'.heap.get? c=s.heap.get? c->Q' () s'->wpAny (model prog w) A each Q' E s')
  (q:∀h',Heap.SameBut a s.heap h'->SetI b a (ms.foldl L2.stepK ks) h'->Q () {s with heap:=h' }):wpAny (model prog w) A (setMerge a c each) Q E s:=by
 have sb4:scanBound=4096:=rfl;have hO':=hO;obtain ⟨oc,ec,pc,tc,hoc,hexc,hdc,alc,pmc,szc,ftc,gdc,ldc⟩:=hO';have lc:ec.size=ms.length:=by have:=pmc.length_eq;rwa [ax,aO] at this
 unfold setMerge;rw [aS (by simpa using ne)]
 refine af (bI hoc hdc ftc ?_);dsimp only
 by_cases em:ec.isEmpty=true
 .rw [aE em];have:ms=[]:=by
   have:ec.size=0:=by simpa using em
   exact cV.mp (by omega)
  subst this;exact ar (q s.heap (eR a s.heap) hS)
 rw [aS em];have pos:0<ec.size:=by
  rcases Nat.eq_zero_or_pos ec.size with z|z
  .exact absurd (by simpa using z) em
  .exact z
 refine af (as4 hS pos (by omega) λh1 sb1 X1=>?_)
 have hoc1:h1.get? c=some oc:=sb1.extBut c oc (ee ne) hoc;have X1':=X1;obtain ⟨o1,e1,p1,t1,g1,g2,g3,g4,g5,g6,g7,g8,g9,g10⟩:=X1';have l1:e1.size=ks.length:=by have:=g5.length_eq;rwa [ax,aO] at this
 have fl1:=SETH.a2b g8.1.gd;have sz1:=size_of g7;have sz2:=size_of ftc;have flc:=SETH.a2b gdc.1.gd;refine af (bI (s:={s with heap:=h1}) g1 g3 g7 ?_)
 dsimp only;unfold SetTable.road
 by_cases f0:t1.fill=0
 .rw [aS (by simpa using f0)]
  have k0:ks=[]:=cV.mp (by omega)
  subst k0;have fm:ms.foldl L2.stepK []=ms:=ade (by simpa using nd)
  rw [fm] at q
  by_cases mm:(t1.mask == tc.mask && tc.dummies.isEmpty)=true
  .rw [aE mm];dsimp only;have mk:t1.mask=tc.mask:=by have:=(cf _ _ ▸ mm).1;simpa using this
   refine eX (s:={s with heap:=h1}) g1 g3 (q _ (sb1.trans (bP _ a _)) (stored prog w g1 g2 g3 alc pmc szc ftc ⟨⟨⟨gdc.1.gd.ri,gdc.1.gd.dm⟩,gdc.1.pow,gdc.1.big,gdc.1.le,?_⟩,gdc.2⟩ ?_)) (eY szc)
   .show (t1.plain && tc.plain)=true;rw [g8.1.plain,gdc.1.plain];rfl
   .show (t1.led && tc.led)=b;rw [g9,ldc,eW]
  .rw [aS mm];dsimp only;obtain ⟨k1,hk1⟩:=g8.1.pow;obtain ⟨t',od,e,hm,hdm,hp,hs,hl,hod⟩:=SETH.a7j (f:=t1.finger) (m:=t1.moves) (l:=t1.led && tc.led) (p:=t1.plain && tc.plain) hk1 (ec.map (·.1)) (by rw [fv];omega)
   rw [fv] at hs hod;have ld':=anr e;have gd':=(a9n e).1;have szo:(od.filterMap (ec[·]?)).size=ec.size:=by
    rw [<-aO,dJ,SETH.af4 _ λx hx=>bE.mp (hod.mem_iff.mp hx),hod.length_eq,aF]
   have po:=agz (es:=ec) hod;have fl:=SETH.a2b gd';have ft':t'.fits (od.filterMap (ec[·]?)).size=true:=by
    unfold SetTable.fits;rw [fl,szo,hs];have:ec.size<=t'.mask:=by omega
    simp [this]
   have sx:(od.filterMap (ec[·]?)).size<scanBound:=by omega
   refine af (dl (a:=(od.filterMap (ec[·]?),t')) ?_ ?_)
   .rw [e];exact aS (c:=(od.filterMap (ec[·]?)).size != ec.size) (by rw [szo];simp)
   .have gg:Gr t':=⟨⟨gd',⟨k1,by rw [hm];exact hk1⟩,by rw [hm];exact g8.1.big,λi hi=>by rw [hm];exact hl i hi,by rw [hp,g8.1.plain,gdc.1.plain];rfl⟩,by omega⟩
    exact eX (s:={s with heap:=h1}) g1 g3 (q _ (sb1.trans (bP _ a _)) (stored prog w g1 g2 g3 (λe he=>alc e (po.mem_iff.mp he)) ((po.map kOf).trans pmc) sx ft' gg (by rw [ld',g9,ldc,eW]))) (eY sx)
 .rw [aE (by simpa using f0)]
  dsimp only;refine af (adc (s:={s with heap:=h1}) hoc1 hdc ftc gdc.1.plain (ldc.trans hb) ?_)
  have al:AllI (a8v w c pc ec).toList:=λe he=>alc e ((a6d w c pc ec).mem_iff.mp he);have pw:((a8v w c pc ec).toList.map kOf).Perm ms:=((a6d w c pc ec).map kOf).trans pmc
  generalize a8v w c pc ec=os at al pw
  refine af (wpAny_forIn_array' _ (λrest _ s'=>∃(done:List (Int×Value)) (h':Heap),os.toList=done++rest/\s'={s with heap:=h' }/\Heap.SameBut a s.heap h'/\SetI b a ((done.map kOf).foldl L2.stepK ks) h') _ ?_ ?_ os _ ⟨[],h1,rfl,rfl,sb1,X1.i⟩)
  .rintro ⟨hh,x⟩ rest u s' ⟨done,h',eo,rfl,sb',S'⟩
   obtain ⟨k,tk,ek⟩:=al (hh,x) (by rw [eo];simp)
   cases ek
   have lm:=pw.length_eq;rw [eo,ax,av,aH] at lm;have ln:((done.map kOf).foldl L2.stepK ks).length<=ks.length+done.length:=by
    have:∀(l:List Int) (ks:List Int),(l.foldl L2.stepK ks).length<=ks.length+l.length:=λl=>by
     induction l with
     |nil=>intro ks;simp
     |cons x l ih =>
      intro ks
      have h2:=ih (L2.stepK ks x);have h3:(L2.stepK ks x).length<=ks.length+1:=by
       unfold L2.stepK
       split
       .omega
       .simp
      rw [dH,aH];omega
    have:=this (done.map kOf) ks
    rwa [ax] at this
   refine af (bR (a5g (s:={s with heap:=h' }) S' (by omega) λh2 r sb2 S2=>?_))
   have sbt:=sb'.trans sb2;have gc2:h2.get? c=some oc:=sbt.extBut c oc (ee ne) hoc;refine af (he {s with heap:=h2} _ (by rw [gc2,hoc]) ?_)
   refine af (bI (s:={s with heap:=h2}) gc2 hdc ftc ?_)
   dsimp only;rw [aS (by simp)]
   refine ar ⟨done++[(hashInt k,.int k tk)],h2,by rw [eo];simp,rfl,sbt,?_⟩
   rw [cI,List.foldl_append];exact S2
  .rintro u s' ⟨done,h',eo,rfl,sb',S'⟩
   rw [bL] at eo;rw [<-eo] at S';exact ar (q h' sb' (S'.perm (aju pw ks)))
end
end SETB
set_option maxHeartbeats 1000000
namespace SETB
open PyProof.Rows SETA PySem.Builtin
theorem ant:entryFor table "set.__or__" = some Builtin.«frozenset.__or__» :=
 entryFor_alias (id' := "frozenset.__or__") (by kernel_rfl) rfl (by decide +kernel) (by kernel_rfl)
section
variable{prog:Program}{w:World}{E:Value->Shared->Prop}{A:Around}{s:Shared}{a c:Addr}
theorem adf(hS:SetI b a ks s.heap)(q:Q true s):wpAny (model prog w) A (Frozenset.isAnySet (.ref a)) Q E s:=by
 unfold Frozenset.isAnySet;refine af (dM hS.typeIs sub_set_self ?_);exact ar q
theorem anu(hb:b = !byT w)(hS:SetI b a ks s.heap)(nd:ks.Nodup)(few:ks.length+1<scanBound)
  (q:∀h',(∀c o,s.heap.get? c=some o->h'.get? c=some o)->SetI b s.heap.objs.size ks h'->Q (.ref s.heap.objs.size) {s with heap:=h' }):wpAny (model prog w) A (Frozenset.copyOf a) Q E s:=by
 subst hb;unfold Frozenset.copyOf Frozenset.baseOf;refine af (af (dM hS.typeIs sub_set_self (ar ?_)));rw [aE rfl];refine af (a9q ?_);refine af (ar ?_);have at0:(s.heap.push (a1i (!byT w))).get? s.heap.objs.size=some (a1i (!byT w)):=aJ _ rfl;have hS1:SetI (!byT w) a ks (s.heap.push (a1i (!byT w))):=hS.keep λo e=>ai _ e;have la:a<s.heap.objs.size:=by
  obtain ⟨o,_,_,_,ho,_⟩:=hS;exact aG ho
 refine af (af8 (s:={s with heap:=s.heap.push (a1i (!byT w))}) rfl (ad7 at0) hS1 (gX la) nd (by rw [bH,hU];exact few) (λs' Q' _ h=>ar h) λh' sb x=>ar (q h' (λc o e=>sb.extBut c o (aV (aG e)) (ai _ e)) ?_))
 rwa [ade (by simpa using nd),cr] at x
theorem as6(hb:b = !byT w)(hS:SetI b a ks s.heap)(hO:SetI b c ms s.heap)(ne:a≠c)(nk:ks.Nodup)(nd:ms.Nodup)(few:ks.length+ms.length+1<scanBound)
  (q:∀h',(∀c o,s.heap.get? c=some o->h'.get? c=some o)->SetI b s.heap.objs.size (ms.foldl L2.stepK ks) h'->Q (.ref s.heap.objs.size) {s with heap:=h' }):wpAny (model prog w) A (binaryOp .BitOr (.ref a) (.ref c)) Q E s:=by
 refine wpAny_binaryOp_same (op:=.BitOr) (T := "set") hS.typeIs hO.typeIs F.fills_set_or F.slot_set_or (bX F.slot_set_or hS.typeIs ant ?_ (F.args_set_or_2 _ _));refine af (dl (a:=(Value.ref a,Value.ref c)) rfl ?_);dsimp only;refine af (af (adf hS ?_));refine adf hO ?_;rw [aS (by decide)]
 refine af (ar ?_);have lc:c<s.heap.objs.size:=by
  obtain ⟨o,_,_,_,ho,_⟩:=hO;exact aG ho
 refine af (af (anu hb hS nk (by omega) λh1 kp x1=>?_))
 have hO1:SetI b c ms h1:=hO.keep λo e=>kp c o e;rw [aE (by simpa using (ee ne))]
 refine af (ar ?_);refine af (bR ?_);unfold Frozenset.updateFrom;refine af (adf (s:={s with heap:=h1}) hO1 ?_)
 rw [aE rfl];have hO1':=hO1;obtain ⟨oc,ec,pc,tc,hoc,hexc,hdc,alc,pmc,szc,ftc,gdc,ldc⟩:=hO1';refine af (ar ?_);unfold Frozenset.merge;refine af (wpAny_setEpoch_of (s:={s with heap:=h1}) hoc hdc ftc ?_)
 refine af8 (s:={s with heap:=h1}) hb x1 hO1 (gX lc) nd (by omega) (λs' Q' e h=>?_) λh2 sb x2=>?_
 .unfold Frozenset.unchanged;refine af (wpAny_setEpoch_of (e.trans hoc) hdc ftc ?_);rw [aS (by simp)]
  exact ar h
 .exact ar (ar ⟨_,rfl,(λz=>by cases z),q h2 (λd o e=>sb.extBut d o (aV (aG e)) (kp d o e)) x2⟩)
end
end SETB
namespace SETB
open PyProof.Rows SETA
section
variable{prog:Program}{w:World}{A:Around}{E:Value->Shared->Prop}{R:Result->Shared->Prop}{s:Shared}
theorem a7n{b:Bool}{I S:Addr}{fp wr:List Addr}{n:Nat}{P:Nat->Value->Prop}{St:Nat->Heap->Prop}(W:Walks prog w A.in1 I fp wr n P St)(apart:S∉fp)(val:Nat->Int)(key:∀i v,P i v->∃t,v=.int (val i) t)(few:n+1<scanBound) :
  ∀(left i:Nat) (s:Shared) (ks:List Int),i+left=n->ks.length<=i->St i s.heap->SetI b S ks s.heap->
   (∀h' tk,SetI b S (((List.range' i left).map val).foldl L2.stepK ks) h'->(∀c o,c≠S->c∉wr->s.heap.get? c=some o->h'.get? c=some o)->R (.ok (.ret .none)) {s with heap:=h',toks:=tk})->
   codeAny (model prog w) A (.builtin "set.update.loop" ⟨[.ref S,.ref I],[]⟩) R s
 | 0,i,s,ks,hi,hl,st,x,fin=>cQ F.entry_set_update_loop (by
   obtain rfl:i=n:=by omega
   simp only [bW fN];exact af (W.done s _ _ st λh' tk k=>ar (fin h' tk (x.keep λo e=>k S o (λz=>apart (W.sub S z)) e) λc o _ hc e=>k c o hc e)))
 | left+1,i,s,ks,hi,hl,st,x,fin=>cQ F.entry_set_update_loop (by
   simp only [bW fN];refine af (W.item i s _ _ (by omega) st λv h1 t1 p st1 k1=>?_)
   obtain ⟨tk,rfl⟩:=key i v p;refine af (bR ?_);unfold setAdd;refine bR (af ((intKind prog w).pyHash (k:=val i) (by simp [intKind,Value.isInt]) ?_))
   refine a5g (s:={s with heap:=h1,toks:=t1+1}) (x.keep λo e=>k1 S o (λz=>apart (W.sub S z)) e) (by omega) λh2 r sb x2=>?_
   have sl:(L2.stepK ks (val i)).length<=i+1:=by
    unfold L2.stepK
    split
    .omega
    .rw [av,aK];omega
   refine ar ⟨dR fN _,a7n W apart val key few left (i+1) _ _ (by omega) sl (W.frame _ _ _ st1 λc hc o e=>sb.extBut c o (λz=>apart (z ▸ hc)) e) x2 λh3 t3 x3 k3=>?_⟩
   exact fin h3 t3 (by rw [gF,aT,dH];exact x3) λc o cS cw e=>k3 c o cS cw (sb.extBut c o cS (k1 c o cw e)))
theorem ajv(a:Value)(h:Q₁ (.ref s.heap.objs.size) {s with heap:=s.heap.push (a1i (!byT w))}) :
  codeAny (model prog w) A (.call (.builtin "set.__new__") ⟨[.type "set",a],[]⟩) (wants Q₁ E) s:=by
 apply fM
 apply af
 refine dl (F.newCall_set_1 a) ?_;refine ar ⟨dR F.plain_set_new _,cQ F.entry_set_new ?_⟩;simp only [bW F.plain_set_new];have self:=sub_set_self;unfold Builtin.«set.__new__» Builtin.Frozenset.newClass
 generalize en:newSet=mk
 wp_walk
 subst en
 first
  |exact a9q (ar h)
  |exact af (a9q (ar h))
theorem ajw{l:Addr}{tn:String}{od:Option Addr}{dt:Data}{sl:Array (Option Value)}{ns:List Int}{b:Bool}{R:Result->Shared->Prop}(hh:A.handled=none)
  (hl:s.heap.get? l=some {cls:=.type tn,dict:=od,data:=dt,slots:=sl}) (no1:isSubtype (.type tn) (.type "set")=pure false) (no2:isSubtype (.type tn) (.type "frozenset")=pure false) (no3:(Value.type tn == Value.type "dict")=false) (few:ns.length+1<scanBound)
  (it:∀(s1:Shared) (Q:Value->Shared->Prop) (E:Value->Shared->Prop),s1.heap.get? l=some {cls:=.type tn,dict:=od,data:=dt,slots:=sl}->
   (∀(o:Obj) (St:Nat->Heap->Prop) (P:Nat->Value->Prop),(∀A':Around,A'.handled=none->Walks prog w A' s1.heap.objs.size [s1.heap.objs.size,l] [s1.heap.objs.size] ns.length P St)->(∀i v,P i v->∃t,v=.int (ns.getD i 0) t)->St 0 (s1.heap.push o)->Q (.ref s1.heap.objs.size) {s1 with heap:=s1.heap.push o})->wpAny (model prog w) A.in1 (pyIter (.ref l)) Q E s1)
  (q:∀h' tk,SetI b s.heap.objs.size (ns.foldl L2.stepK []) h'->(∀c o,s.heap.get? c=some o->h'.get? c=some o)->R (.ok (.ret .none)) {s with heap:=h',toks:=tk}) :
  wpAny (model prog w) A.in1 (Builtin.«set.__init__» ⟨[.ref s.heap.objs.size,.ref l],[]⟩)
   (λfin s'=>match fin with|.done f=>R (.ok f) s'|.again c'=>c'.quiet=true/\codeAny (model prog w) A c' R s') (λe s'=>R (.error e) s') {s with heap:=s.heap.push (a1i b)}:=by
 have at0:(s.heap.push (a1i b)).get? s.heap.objs.size=some (a1i b):=aJ _ rfl;have hl':(s.heap.push (a1i b)).get? l=some {cls:=.type tn,dict:=od,data:=dt,slots:=sl}:=ai _ hl;have ll:=aG hl;unfold Builtin.«set.__init__»;unfold noKeywords Builtin.Frozenset.updateFrom
 generalize ep:pyIter=walker
 unfold a1i at at0 hl' ⊢
 wp_walk
 subst ep;refine it _ _ _ hl' λo St P W key st=>af (wpAny_runValue ?_);dsimp only at W st ⊢;have far:s.heap.objs.size∉[(s.heap.push (a1i b)).objs.size,l]:=λz=>by
  rcases aC.mp z with z|z
  .rw [cB] at z;exact absurd z (aV (eH _))
  .rw [aD] at z;rw [<-z] at ll;exact bC _ ll
 have e0:(List.range' 0 ns.length).map (λi=>ns.getD i 0)=ns:=by
  refine eD λi=>?_
  by_cases hi:i<ns.length
  .rw [aN,List.getElem?_range' hi,ag hi];simp [c9,hi]
  .rw [ba (by simp;omega),ba (by omega)]
 refine a7n (b:=b) (W _ (by simp [hh])) far (λi=>ns.getD i 0) key few ns.length 0 {s with heap:=(s.heap.push (a1i b)).push o} [] (by omega) (by simp) st (ad7 (b:=b) (ai _ (show (s.heap.push (a1i b)).get? s.heap.objs.size=some (a1i b) from at0))) λh' tk held k=>?_
 rw [e0] at held;refine ar (ar ?_);refine q h' tk held λc o e=>k c o ?_ ?_ (ai _ (ai _ e))
 .exact aV (aG e)
 .intro z
  have z:=aD.mp z;have:=aG e;rw [z,cB] at this;exact absurd this (Nat.not_lt.mpr (Nat.le_succ _))
theorem a4i{ns:List Int}
  (hl:s.heap.get? l=some {cls:=.type tn,dict:=od,data:=dt,slots:=sl}) (no1:isSubtype (.type tn) (.type "set")=pure false) (no2:isSubtype (.type tn) (.type "frozenset")=pure false) (no3:(Value.type tn == Value.type "dict")=false) (few:ns.length+1<scanBound)
  (it:∀(A:Around) (s1:Shared) (Q:Value->Shared->Prop) (E:Value->Shared->Prop),s1.heap.get? l=some {cls:=.type tn,dict:=od,data:=dt,slots:=sl}->
   (∀(o:Obj) (St:Nat->Heap->Prop) (P:Nat->Value->Prop),(∀A':Around,A'.handled=none->Walks prog w A' s1.heap.objs.size [s1.heap.objs.size,l] [s1.heap.objs.size] ns.length P St)->(∀i v,P i v->∃t,v=.int (ns.getD i 0) t)->St 0 (s1.heap.push o)->Q (.ref s1.heap.objs.size) {s1 with heap:=s1.heap.push o})->wpAny (model prog w) A (pyIter (.ref l)) Q E s1)
  (hh:A.handled=none)
  (q:∀h' tk,SetI (!byT w) s.heap.objs.size (ns.foldl L2.stepK []) h'->(∀c o,s.heap.get? c=some o->h'.get? c=some o)->Q (.ref s.heap.objs.size) {s with heap:=h',toks:=tk}) :
  wpAny (model prog w) A (call (.type "set") [.ref l]) Q E s:=by
 obtain ⟨_,_,order⟩:=eP.mro;have made:=eP.made;have self:=eP.sub;have nt:=eP.notType;have cc:=eP.canCreate;have tc:=F.typeCall_set_1 (.ref l);refine wpAny_call (fM (ar ⟨Code.quiet_builtin _ (by decide +kernel),cQ F.entry_type_call ?_⟩))
 simp only [Around.under_plain (weight_type_call_type "set" [.ref l] []) rfl]
 repeat any_goals first|assumption|wp_step
 refine gu (ajv (.ref l) (E:=E) (Q₁:=λobj s1=>obj=.ref s.heap.objs.size/\s1={s with heap:=s.heap.push (a1i (!byT w))}) ⟨rfl,rfl⟩) λr s1 hr=>?_
 match r,hr with
 |.error _,hr=>exact hr
 |.ok (.ret _),⟨eo,es⟩ =>
  subst eo es;have ty:Shared.TypeIs {s with heap:=s.heap.push (a1i (!byT w))} (.ref s.heap.objs.size) "set":=⟨_,aJ _ rfl,rfl⟩
  have look:=eP.init.lookup;have bound:=eP.init.bind (.ref s.heap.objs.size)
  repeat any_goals first|assumption|wp_step
  refine gu (codeAny_call_builtin (R:=wants (λr s2=>r=.none/\Q (.ref s.heap.objs.size) s2) E) eP.init.plain F.entry_set_init (check_set_init_1 ty (ajw hh hl no1 no2 no3 few (it _) λh' tk x1 k1=>⟨rfl,q h' tk x1 k1⟩))) λr2 s2 hr2=>?_
  match r2,hr2 with
  |.error _,hr2=>exact hr2
  |.ok (.ret _),⟨e2,q2⟩ =>
   subst e2
   repeat any_goals first|assumption|wp_step
  |.ok .next,hr2=>exact hr2.elim
  |.ok .brk,hr2=>exact hr2.elim
  |.ok .cont,hr2=>exact hr2.elim
 |.ok .next,hr=>exact hr.elim
 |.ok .brk,hr=>exact hr.elim
 |.ok .cont,hr=>exact hr.elim
end
end SETB
namespace L2
open PyProof.Rows SETB
theorem sub_tuple_set:isSubtype (.type "tuple") (.type "set")=pure false/\isSubtype (.type "tuple") (.type "frozenset")=pure false:=by
 constructor<;>(rw [fZ];kernel_rfl)
section
variable{X:Cx}
theorem af9{its:List Value}{ns:List Int}(h:IntsAre its ns){i:Nat}(e:its.toArray[i]? = some v):∃t,v=.int (ns.getD i 0) t:=by
 replace e:its[i]? = some v:=by simpa using e
 induction h generalizing i with
 |nil=>simp at e
 |cons n t _ ih =>
  cases i with
  |zero=>simp at e;subst e;exact ⟨_,rfl⟩
  |succ i=>simpa using ih (by simpa using e)
theorem a5i(hc:X.calm=true):CallR X (.type "set") (λxs H Q=>∃(p:Addr) (ns:List Int),xs=[.ref p]/\(SqL X.K H p (ns.map V.int)\/SqT X.K H p (ns.map V.int))/\ns.length+1<scanBound/\∀l,H l=none->Q (.ref l) (upd H l (acl X.w l (ns.foldl stepK [])))):=by
 intro pins s Z H xs us Q I r h
 obtain ⟨p,ns,rfl,hq,few,q⟩:=h;obtain ⟨u,rfl,rx⟩:=vals1 r;cases rx
 have fin:∀(h':Heap) (tk:Nat),SetI (!byT X.w) s.heap.objs.size (ns.foldl stepK []) h'->(∀c o,s.heap.get? c=some o->h'.get? c=some o)->EP X pins Z Q (.ref s.heap.objs.size) {s with heap:=h',toks:=tk}:=λh' tk hS kp =>
  ⟨.ref s.heap.objs.size,_,I.laid (t':=tk) (o:=acl X.w s.heap.objs.size (ns.foldl stepK [])) kp (aA _) (ad9 hS),rfl,q _ (I.hok.fresh (aA _))⟩
 rcases hq with hq|hq
 .obtain ⟨its,r',pl,hz⟩:=I.list hq;have hI:IntsAre its ns:=intsAre_of r';have hl:its.length=ns.length:=by have:=r'.length;simp at this;omega
  obtain ⟨o,ho,hcl,n,hd⟩:=pl.isList;obtain ⟨oc,od,odt,osl⟩:=o;simp only at hcl hd;subst hcl hd;have hlt:=aG ho;refine a4i (ns:=ns) ho F.sub_list_set F.sub_list_frozenset (by decide) few (λA s1 Q E e1 k=>?_) (I.ok.hd hc) fin
  have hlt1:=aG e1;have il:s1.heap.IsList p its.toArray:=⟨_,e1,rfl,n,rfl⟩;refine fX il (k _ (λi h=>h.IsListIter s1.heap.objs.size p i/\h.IsList p its.toArray) (λi v=>its.toArray[i]? = some v) (λA' hA=>?_) (λi v e=>af9 hI e) ⟨⟨_,aJ _ rfl,rfl,rfl⟩,il.at λo e=>ai _ e⟩);have W:=Walks.list (prog:=X.prog) (w:=X.w) (A:=A') hA s1.heap.objs.size p (aV hlt1) its.toArray
  rwa [show its.toArray.size=ns.length by simpa using hl] at W
 .obtain ⟨its,r',pl,hz⟩:=I.tuple hq;have hI:IntsAre its ns:=intsAre_of r';have hl:its.length=ns.length:=by have:=r'.length;simp at this;omega
  obtain ⟨o,ho,hcl,n,hd⟩:=pl;obtain ⟨oc,od,odt,osl⟩:=o;simp only at hcl hd;subst hcl hd;refine a4i (ns:=ns) ho sub_tuple_set.1 sub_tuple_set.2 (by decide) few (λA s1 Q E e1 k=>?_) (I.ok.hd hc) fin
  have hlt1:=aG e1;have il:s1.heap.IsTuple p its.toArray:=⟨_,e1,rfl,n,rfl⟩;refine gY il (k _ (λi h=>h.IsTupleIter s1.heap.objs.size p i/\h.IsTuple p its.toArray) (λi v=>its.toArray[i]? = some v) (λA' hA=>?_) (λi v e=>af9 hI e) ⟨⟨_,aJ _ rfl,rfl,rfl⟩,il.at λo e=>ai _ e⟩);have W:=Walks.tuple (prog:=X.prog) (w:=X.w) (A:=A') hA s1.heap.objs.size p (aV hlt1) its.toArray
  rwa [show its.toArray.size=ns.length by simpa using hl] at W
end
end L2
namespace MI
open L2 SETB
def a7o(d:D)(h:Hd):Option (List Int):=match d with
 |.tup xs=>a9e xs
 |d=>aj6 d h
noncomputable def a7p:D->Hd->R D:=λd h=>match a7o d h with
 |some ns=>if ns.length<=4000 then agy (ns.foldl stepK []) h else .no
 |none=>.no
theorem a9s(r:Rep K U H v d)(hr:HRep K U H h)(e:a7o d h=some ns):∃p,v=.ref p/\(SqL K H p (ns.map V.int)\/SqT K H p (ns.map V.int)):=by
 cases d with
 |tup xs =>
  cases r with
  |tup hh rs =>
   have e:a9e xs=some ns:=e;exact ⟨_,rfl,.inr (by rw [<-a6c rs e];exact SqT.of hh)⟩
 |_ =>
  obtain ⟨p,e1,q⟩:=aj7 r hr e;exact ⟨p,e1,.inl q⟩
theorem a7q(hg:Gl X "sorted")(hm:X.mg "sorted" = none)(hg2:Gl X "set")(hm2:X.mg "set" = none)(hc:X.calm=true)(he:ME X E e f)
  (hs:starEach [e] X.env=[(false,eval e X.env)]:=by rfl) (hs2:starEach [Expr.Call (.Name "set" p2) [e] [] pos2] X.env=[(false,eval (.Call (.Name "set" p2) [e] [] pos2) X.env)]:=by rfl) :
  ME X E (.Call (.Name "sorted" p) [.Call (.Name "set" p2) [e] [] pos2] [] pos) (s1 a7p f):=by
 refine PE.weak (a68 (a08 hc) hg hm rfl (xf (a3y (a5i hc) hg2 hm2 rfl (xf he a3a (by rw [hs];rfl)) (by decide) (by decide) (by rw [hs];rfl)) a3a (by rw [hs2];rfl)) (by decide) (by decide) (by rw [hs2];rfl)) ?_
 rintro Z H Q ⟨U,τ,h,S,Rh,o⟩
 refine ⟨U,τ,h,S,Rh,dh o λd h1 U1 H1 v g1 r1 hr1 o1=>?_⟩;unfold a7p at o1
 cases e1:a7o d h1 with
 |none=>rw [e1] at o1;exact o1.elim
 |some ns =>
  rw [e1] at o1;simp only at o1
  by_cases hl:ns.length<=4000
  .rw [aE hl] at o1;obtain ⟨q,rfl,sq⟩:=a9s r1 hr1 e1;refine ⟨q,ns,rfl,sq,by have:scanBound=4096:=rfl;omega,λl hl'=>?_⟩
   unfold agy at o1
   by_cases h6:(ns.foldl stepK []).length<64
   .rw [aE h6] at o1;exact ⟨l,_,rfl,km,h6,yf (E:=E) (a09 _) (hr1.aside hl' _) (zr o1 (zf hl' _))⟩
   .rw [aS h6] at o1;exact o1.elim
  .rw [aS hl] at o1;exact o1.elim
end MI
namespace L2
open PyProof.Rows SETB
theorem as7{ks:List Int}(h:ks.Nodup):(stepK ks x).Nodup:=by
 unfold stepK
 split
 .exact h
 .rename_i n;exact bQ.mpr ⟨h,by simp,λa ha b hb=>by rw [aD.mp hb];exact λz=>n (z ▸ ha)⟩
theorem a9t:∀{ms ks:List Int},ks.Nodup->(ms.foldl stepK ks).Nodup
 |[],_,h=>h
 |_::ms,_,h=>a9t (ms:=ms) (as7 h)
theorem a7r:∀(ms ks:List Int),(ms.foldl stepK ks).length<=ks.length+ms.length
 |[],ks=>by simp
 |x::ms,ks=>by
  have h2:=a7r ms (stepK ks x);have h3:(stepK ks x).length<=ks.length+1:=by
   unfold stepK
   split
   .omega
   .simp
  rw [dH,aH];omega
section
variable{X:Cx}
theorem aw2:OpR X (binaryOp .BitOr) (λx y H Q=>∃(p q:Addr) (ks ms:List Int),x=.ref p/\y=.ref q/\p≠q/\H p=some (acl X.w p ks)/\H q=some (acl X.w q ms)/\ks.Nodup/\ms.Nodup/\ks.length+ms.length+1<scanBound/\∀l,H l=none->Q (.ref l) (upd H l (acl X.w l (ms.foldl stepK ks)))):=by
 intro pins s Z H x y v u Q I rx ry h
 obtain ⟨p,q,ks,ms,rfl,rfl,ne,hp,hq,nk,nm,few,k⟩:=h;cases rx
 cases ry
 obtain ⟨h1,_⟩:=I.hok p _ hp;obtain ⟨h2,_⟩:=I.hok q _ hq;refine as6 rfl h1 h2 ne nk nm few λh' kp x=>?_;exact ⟨.ref s.heap.objs.size,_,I.laid (t':=s.toks) (o:=acl X.w s.heap.objs.size (ms.foldl stepK ks)) kp (aA _) (ad9 x),rfl,k _ (I.hok.fresh (aA _))⟩
end
end L2
namespace MI
open L2 SETB
def sSU(f g:SE):SE:=λτ h=>(f τ h).bind λx h1=>match a7o x h1 with
 |some ns=>if ns.length<=2000 then (g τ h1).bind λy h2=>match a7o y h2 with
  |some ms=>if ms.length<=2000 then agy ((ms.foldl stepK []).foldl stepK (ns.foldl stepK [])) h2 else .no
  |none=>.no else .no
 |none=>.no
theorem ajx(hg:Gl X "sorted")(hm:X.mg "sorted" = none)(hg2:Gl X "set")(hm2:X.mg "set" = none)(hc:X.calm=true)(he1:ME X E e1 f)(he2:ME X E e2 g)
  (hs:starEach [e1] X.env=[(false,eval e1 X.env)]:=by rfl) (hs3:starEach [e2] X.env=[(false,eval e2 X.env)]:=by rfl)
  (hs2:starEach [Expr.BinOp (.Call (.Name "set" p2) [e1] [] pos2) .BitOr (.Call (.Name "set" p3) [e2] [] pos3) pos4] X.env=[(false,eval (.BinOp (.Call (.Name "set" p2) [e1] [] pos2) .BitOr (.Call (.Name "set" p3) [e2] [] pos3) pos4) X.env)]:=by rfl) :
  ME X E (.Call (.Name "sorted" p) [.BinOp (.Call (.Name "set" p2) [e1] [] pos2) .BitOr (.Call (.Name "set" p3) [e2] [] pos3) pos4] [] pos) (sSU f g):=by
 refine PE.weak (a68 (a08 hc) hg hm rfl (xf (aub aw2 (a3y (a5i hc) hg2 hm2 rfl (xf he1 a3a (by rw [hs];rfl)) (by decide) (by decide) (by rw [hs];rfl)) (a3y (a5i hc) hg2 hm2 rfl (xf he2 a3a (by rw [hs3];rfl)) (by decide) (by decide) (by rw [hs3];rfl))) a3a (by rw [hs2];rfl)) (by decide) (by decide) (by rw [hs2];rfl)) ?_
 rintro Z H Q ⟨U,τ,h,S,Rh,o⟩
 refine ⟨U,τ,h,S,Rh,dh o λd h1 U1 H1 v g1 r1 hr1 o1=>?_⟩
 cases i1:a7o d h1 with
 |none=>rw [i1] at o1;exact o1.elim
 |some ns =>
  rw [i1] at o1;simp only at o1
  by_cases hl:ns.length<=2000
  .rw [aE hl] at o1;obtain ⟨q,rfl,sq⟩:=a9s r1 hr1 i1;refine ⟨q,ns,rfl,sq,by have:scanBound=4096:=rfl;omega,λl hl'=>?_⟩
   have gn:Gr U1 H1 U1 (upd H1 l (acl X.w l (ns.foldl stepK []))):=zf hl' _;have nin:l∉U1:=hr1.notin hl';refine ⟨U1,τ,h1,S.mono (g1.trans gn),hr1.aside hl' _,dh (zr o1 gn) λd2 h2 U2 H2 u g2 r2 hr2 o2=>?_⟩;have at1:H2 l=some (acl X.w l (ns.foldl stepK [])):=g2.oth l _ km nin
   cases i2:a7o d2 h2 with
   |none=>rw [i2] at o2;exact o2.elim
   |some ms =>
    rw [i2] at o2;simp only at o2
    by_cases hl2:ms.length<=2000
    .rw [aE hl2] at o2;obtain ⟨q2,rfl,sq2⟩:=a9s r2 hr2 i2;refine ⟨q2,ms,rfl,sq2,by have:scanBound=4096:=rfl;omega,λl2 hl2'=>?_⟩
     have ne:l≠l2:=λz=>by rw [z,hl2'] at at1;cases at1
     have f1:=a7r ns [];have f2:=a7r ms [];rw [bH,hU] at f1 f2;refine ⟨l,l2,ns.foldl stepK [],ms.foldl stepK [],rfl,rfl,ne,(by rw [jc ne];exact at1),km,a9t fq,a9t fq,by have:scanBound=4096:=rfl;omega,λl3 hl3=>?_⟩
     unfold agy at o2
     by_cases h6:((ms.foldl stepK []).foldl stepK (ns.foldl stepK [])).length<64
     .rw [aE h6] at o2;have gn2:=zf (U:=U2) hl2' (acl X.w l2 (ms.foldl stepK []));exact ⟨l3,_,rfl,km,h6,yf (E:=E) (a09 _) ((hr2.aside hl2' _).aside hl3 _) (zr o2 (gn2.trans (zf hl3 _)))⟩
     .rw [aS h6] at o2;exact o2.elim
    .rw [aS hl2] at o2;exact o2.elim
  .rw [aS hl] at o1;exact o1.elim
end MI
namespace L2
open PyProof.Rows
section
variable{prog:Program}{w:World}{A:Around}{E:Value->Shared->Prop}{R:Result->Shared->Prop}
abbrev stO(T:Addr)(c:Nat):Obj:={cls:=.type "list",dict:=none,data:=.seq #[.ref T] c,slots := #[]}
theorem a3d{I S:Addr}{fp wr:List Addr}{n:Nat}{P:Nat->Value->Prop}{St:Nat->Heap->Prop}(W:Walks prog w A.in1 I fp wr n P St)(hS:S∉fp)(its:Nat->List Value)(ad cn:Nat->Nat)(key:∀i v,i<n->P i v->v=.ref (ad i))(aw:∀i,i<n->ad i∉wr/\ad i≠S)(fS:∀b∈fp,b<S) :
  ∀(left i:Nat) (s:Shared) (T:Addr) (tot:List Value) (c m:Nat),i+left=n->St i s.heap->s.heap.get? S=some (stO T c)->T≠S->T∉wr->IsL s.heap T tot.toArray m->(∀j,j<n->IsL s.heap (ad j) (its j).toArray (cn j)) ->
   (tot++((List.range' i left).map its).flatten).length<=sizeLine->
   (∀(h':Heap) (tk:Nat) (T':Addr) (m':Nat),IsL h' T' (tot++((List.range' i left).map its).flatten).toArray m'->(left=0->T'=T)->(left≠0->S<T')->(∀b o,b∉wr->b≠S->s.heap.get? b=some o->h'.get? b=some o)->R (.ok (.ret (.ref T'))) {s with heap:=h',toks:=tk})->
   codeAny (model prog w) A (.builtin "sum.loop" ⟨[.ref I,.ref S,rawInt 2,rawInt 0],[]⟩) R s
 | 0,i,s,T,tot,c,m,hi,st,eS,hTS,hTw,eT,el,hz,fin=>cQ F.entry_sum_loop (by
   obtain rfl:i=n:=by omega
   simp only [bW gG];show wpAny _ A.in1 (seqItems? (.ref S)>>=_) _ _ s;refine af (dE eS rfl ?_);show wpAny _ A.in1 (tryCatch (pyNext (.ref I)) _>>=_) _ _ s;refine af (wpAny_tryCatch (W.done s _ _ st λh' tk k=>?_));exact ar (fin h' tk T m (by simpa using k T _ hTw eT) (λ_=>rfl) (λz=>absurd rfl z) λb o hb _ e=>k b o hb e))
 | left+1,i,s,T,tot,c,m,hi,st,eS,hTS,hTw,eT,el,hz,fin=>cQ F.entry_sum_loop (by
   have hin:i<n:=by omega
   have hSw:S∉wr:=λz=>hS (W.sub _ z);simp only [bW gG];show wpAny _ A.in1 (seqItems? (.ref S)>>=_) _ _ s;refine af (dE eS rfl ?_);show wpAny _ A.in1 (tryCatch (pyNext (.ref I)) _>>=_) _ _ s;refine af (wpAny_tryCatch (W.item i s _ _ hin st λv h1 t1 p st1 k1=>?_));obtain rfl:=key i v hin p;have eS1:=k1 S _ hSw eS;have eT1:IsL h1 T tot.toArray m:=k1 T _ hTw eT;have ei1:IsL h1 (ad i) (its i).toArray (cn i):=k1 _ _ (aw i hin).1 (el i hin);have zl:tot.length+(its i).length<=sizeLine:=by
    rw [gF,aT,bb,av,av] at hz;omega
   show wpAny _ A.in1 ((holding [Value.ref (ad i)] (binaryOp .Add (.ref T) (.ref (ad i)))).attempt>>=_) _ _ {s with heap:=h1,toks:=t1}
   refine af (iq (bR (PySem.P.add_list (s:={s with heap:=h1,toks:=t1}) eT1 ei1 ?_ (by simpa using zl))))
   have app:tot.toArray++(its i).toArray=(tot++its i).toArray:=by simp
   rw [app];dsimp only
   generalize hG:h1.push {cls:=.type "list",dict:=none,data:=.seq (tot++its i).toArray}=G
   have kG:∀b o,h1.get? b=some o->G.get? b=some o:=λb o e=>by rw [<-hG];exact ai _ e
   have lS:=aG eS1;have neS:h1.objs.size≠S:=gX lS;have eN:IsL G h1.objs.size (tot++its i).toArray 0:=by rw [<-hG];exact aJ _ rfl
   have eS2:=kG S _ eS1;show wpAny _ A.in1 (updateSeq S (λ_ => #[.ref h1.objs.size])>>=_) _ _ _;refine af (cU eS2 rfl ?_);have eS3:=bG (Obj.mapSeq λ_ => #[Value.ref h1.objs.size]) eS2 rfl;refine af (wpAny_letGo ?_);refine af (cU eS3 rfl ?_);have eS4:=bG (Obj.mapSeq λ_ => #[Value.ref h1.objs.size]) eS3 rfl;have k2:∀b o,b≠S->G.get? b=some o->((G.update S (Obj.mapSeq λ_ => #[Value.ref h1.objs.size])).update S (Obj.mapSeq λ_ => #[Value.ref h1.objs.size])).get? b=some o:=λb o hb e=>(bU _ _ (ee hb)).trans ((bU _ _ (ee hb)).trans e)
   have lw:h1.objs.size∉wr:=λz=>bC _ (Nat.lt_trans lS (fS _ (W.sub _ z)));refine ar ⟨dR gG _,a3d W hS its ad cn key aw fS left (i+1) _ h1.objs.size (tot++its i) _ _ (by omega) (W.frame _ _ _ st1 λb hb o e=>k2 b o (λz=>hS (z ▸ hb)) (kG b o e)) eS4 neS lw (k2 _ _ neS eN) (λj hj=>k2 _ _ (aw j hj).2 (kG _ _ (k1 _ _ (aw j hj).1 (el j hj)))) ?_ λh' tk T' m' e1 e2 e3 e4=>?_⟩
   .rw [gF,aT,bb,<-cM] at hz;exact hz
   .refine fin h' tk T' m' (by rw [gF,aT,bb,<-cM];exact e1) (λz=>absurd z (by omega)) (λ_=>?_) λb o hb hbS e=>e4 b o hb hbS (k2 b o hbS (kG b o (k1 b o hb e)))
    by_cases z:left=0
    .rw [e2 z];exact lS
    .exact e3 z)
theorem ajy(a b:Value):argsOk "sum" ⟨[a,b],[]⟩:=by unfold argsOk;kernel_rfl
theorem ajz{ps qs:List Value}{s:Shared}(its:Nat->List Value)(ad cn:Nat->Nat)(hh:A.handled=none)(ep:IsL s.heap p ps.toArray cp)(eq:IsL s.heap q qs.toArray cq)(key:∀(i:Nat) v,ps[i]? = some v->v=.ref (ad i)/\IsL s.heap (ad i) (its i).toArray (cn i))
  (hz:(qs++((List.range' 0 ps.length).map its).flatten).length<=sizeLine)
  (fin:∀(h':Heap) (tk:Nat) (T':Addr) (m':Nat),IsL h' T' (qs++((List.range' 0 ps.length).map its).flatten).toArray m'->(ps.length=0->T'=q)->(ps.length≠0->s.heap.objs.size<=T')->(∀b o,s.heap.get? b=some o->h'.get? b=some o)->Q (.ref T') {s with heap:=h',toks:=tk}) :
  wpAny (model prog w) A (call (.builtin "sum") [.ref p,.ref q]) Q E s:=by
 refine call_function_tree F.kind_sum F.plain_sum F.entry_sum (ajy _ _) ?_;unfold Builtin.«sum»;simp only [aH,bH];rw [aS (by decide)]
 refine af (dl (show Builtin.Builtins.bindParams "sum" ["start"] 0 ⟨[.ref q],[]⟩=pure [some (.ref q)] from rfl) ?_)
 have lp:=aG ep;have lq:=aG eq;refine af (fX (⟨_,ep,rfl,cp,rfl⟩:s.heap.IsList p ps.toArray) ?_)
 generalize hG:s.heap.push _=G
 have kG:∀b o,s.heap.get? b=some o->G.get? b=some o:=λb o e=>by rw [<-hG];exact ai _ e
 have iG:G.IsListIter s.heap.objs.size p 0:=by rw [<-hG];exact ⟨_,aJ _ rfl,rfl,rfl⟩
 have sG:G.objs.size=s.heap.objs.size+1:=by rw [<-hG,cB]
 have ty:Shared.TypeIs {s with heap:=G} (.ref q) "list":=⟨_,kG _ _ eq,rfl⟩
 refine af (ar ?_);simp only [List.forIn_cons,iR];refine af (af (af (dM (T := "list") (b:=false) ty F.sub_list_str ?_)));simp only [bi,dC];refine ar (af (af (dM (T := "list") (b:=false) ty F.sub_list_bytes ?_)));simp only [bi,dC];refine ar (af (af (dM (T := "list") (b:=false) ty F.sub_list_bytearray ?_)));simp only [bi,dC]
 refine ar (ar ?_);refine af (cA ?_)
 generalize hK:({s with heap:=G}:Shared).heap.push _=G2
 have kK:∀b o,G.get? b=some o->G2.get? b=some o:=λb o e=>by rw [<-hK];exact ai _ e
 have eS:G2.get? G.objs.size=some (stO q 0):=by rw [<-hK];exact aJ _ rfl
 have W:=Walks.list (prog:=prog) (w:=w) (A:=A.in1) (by simpa using hh) s.heap.objs.size p (aV lp) ps.toArray
 have nw:∀b o,s.heap.get? b=some o->b∉[s.heap.objs.size]/\b≠G.objs.size:=λb o e=>by
  have:=aG e
  refine ⟨λz=>?_,λz=>?_⟩
  .rw [aD.mp z] at this;exact bC _ this
  .rw [z,sG] at this;exact absurd this (Nat.not_lt.mpr (Nat.le_succ _))
 have ff:∀b∈[s.heap.objs.size,p],b<G.objs.size:=λb hb=>by
  rw [sG];simp only [aC,bA,e9] at hb
  rcases hb with rfl|rfl
  .exact eH _
  .exact fY lp
 have ky:∀i,i<ps.length->ps[i]? = some (.ref (ad i))/\IsL s.heap (ad i) (its i).toArray (cn i):=λi hi=>by
  obtain ⟨a,b⟩:=key i _ (ag hi);exact ⟨by rw [ag hi,a],b⟩
 have n0:ps.toArray.size=ps.length:=by simp
 refine ar ⟨dR gG _,a3d W (λz=>bC _ (ff _ z)) its ad cn (λi v hi e=>(key i v (by simpa using e)).1) (λi hi=>nw _ _ (ky i (by simpa using hi)).2) ff ps.length 0 _ q qs 0 cq (by simp) ⟨iG.at λo e=>kK _ _ e,(⟨_,kK _ _ (kG _ _ ep),rfl,cp,rfl⟩:G2.IsList p ps.toArray)⟩ eS (nw _ _ eq).2 (nw _ _ eq).1 (kK _ _ (kG _ _ eq)) (λj hj=>kK _ _ (kG _ _ (ky j (by simpa using hj)).2)) hz λh' tk T' m' e1 e2 e3 e4=>?_⟩
 refine fin h' tk T' m' e1 e2 (λz=>?_) λb o e=>e4 b o (nw b o e).1 (nw b o e).2 (kK _ _ (kG _ _ e));have:=e3 z;rw [sG] at this;exact dO (Nat.lt_of_succ_lt this)
end
section
variable{X:Cx}
def Lss(H:Hp):List V->List (List V)->Prop
 |[],[]=>True
 |v::vs,zs::zss=>(∃a,v=.ref a/\Rd H a (.lst zs))/\Lss H vs zss
 |_,_=>False
theorem abv(I:Inv X pins Z H s):∀{vs:List V} {zss:List (List V)} {us:List Value},Lss H vs zss->Vals vs us->
  ∃(its:List (List Value)) (ad cn:List Nat),its.length=us.length/\ad.length=us.length/\cn.length=us.length/\Vals zss.flatten its.flatten/\∀(i:Nat) v,us[i]? = some v->v=.ref (ad.getD i 0)/\IsL s.heap (ad.getD i 0) (its.getD i []).toArray (cn.getD i 0)
 |[],[],_,_,.nil=>⟨[],[],[],rfl,rfl,rfl,.nil,λi v e=>by simp at e⟩
 |v::vs,zs::zss,_,⟨⟨a,e,h⟩,hs⟩,.cons r rs=>by
  subst e;cases r
  obtain ⟨_,as,n,va,la,ea⟩:=I.lstR h;obtain ⟨its,ad,cn,l1,l2,l3,vf,k⟩:=abv I hs rs;refine ⟨as::its,a::ad,n::cn,by simp [l1],by simp [l2],by simp [l3],by rw [bb,bb];exact va.append vf,λi v e=>?_⟩
  cases i with
  |zero=>simp at e;subst e;exact ⟨rfl,ea⟩
  |succ i=>simpa using k i v (by simpa using e)
theorem abw(hc:X.calm=true):CallR X (.builtin "sum") (λxs H Q=>∃(p q:Addr) (vs ys:List V) (zss:List (List V)),xs=[.ref p,.ref q]/\Rd H p (.lst vs)/\Rd H q (.lst ys)/\Lss H vs zss/\(ys++zss.flatten).length<=sizeLine/\(vs=[]->Q (.ref q) H)/\(vs≠[]->∀l,H l=none->Q (.ref l) (upd H l (.lst (ys++zss.flatten))))):=by
 intro pins s Z H xs us Q I r h
 obtain ⟨p,q,vs,ys,zss,rfl,hp,hq,hl,hz,q1,q2⟩:=h
 cases r with
 |cons r1 r =>
  cases r with
  |cons r2 r =>
   cases r;cases r1;cases r2
   obtain ⟨_,ps,cp,vp,lp,ep⟩:=I.lstR hp;obtain ⟨_,qs,cq,vq,lq,eq⟩:=I.lstR hq;obtain ⟨its,ad,cn,l1,l2,l3,vf,k⟩:=abv I hl vp;have e0:(List.range' 0 ps.length).map (λi=>its.getD i [])=its:=by
    refine eD λi=>?_
    by_cases hi:i<ps.length
    .rw [aN,List.getElem?_range' hi,ag (by omega)]
     simp [c9,show i<its.length by omega]
    .rw [ba (by simp;omega),ba (by omega)]
   refine ajz (λi=>its.getD i []) (λi=>ad.getD i 0) (λi=>cn.getD i 0) (I.ok.hd hc) ep eq k ?_ λh' tk T' m' e1 e2 e3 e4=>?_
   .rw [e0,av,<-vq.length,<-vf.length,<-av];exact hz
   .rw [e0] at e1
    by_cases z:vs=[]
    .have:ps.length=0:=by rw [<-lp,z];rfl
     rw [e2 this];exact ⟨.ref q,H,I.kept (t':=tk) e4,rfl,q1 z⟩
    .have:ps.length≠0:=by rw [<-lp];exact λw=>z (cV.mp w)
     exact ⟨.ref T',_,I.laid (t':=tk) e4 (e3 this) (show ObjOk X.prog X.w _ _ _ (.lst (ys++zss.flatten)) from ⟨hz,_,m',vq.append vf,e1⟩),rfl,q2 z _ (I.hok.fresh (e3 this))⟩
end
end L2
namespace MI
open L2
def ah0:List D->Hd->R D
 |[x,y],h=>(match ur x h,ur y h with
  |some xs,some ys=>(match a03 (λd=>ur d h) xs with
   |some zss=>if (ys++zss.flatten).length<=LINE then (if xs=[] then .ok y h else .ok (.ref h.length) (h++[.lst (ys++zss.flatten)])) else .no
   |none=>.no)
  |_,_=>.no)
 |_,_=>.no
theorem ape(hr:HRep K U H h):∀{vs:List V} {xs:List D} {zss:List (List D)},Reps K U H vs xs->a03 (λd=>ur d h) xs=some zss->∃wss:List (List V),Lss H vs wss/\Reps K U H wss.flatten zss.flatten
 |_,_,_,.nil,e=>by cases e;exact ⟨[],trivial,.nil⟩
 |_,_,_,.cons (d:=d) (ds:=ds) r rs,e=>by
  unfold a03 at e
  cases e1:ur d h with
  |none=>rw [e1] at e;cases e
  |some ys =>
   cases e2:a03 (λd=>ur d h) ds with
   |none=>rw [e1,e2] at e;cases e
   |some yss =>
    rw [e1,e2] at e;cases e
    obtain ⟨a,ws,rfl,hw,rw'⟩:=zu r hr e1;obtain ⟨wss,hs,rr⟩:=ape hr rs e2;exact ⟨ws::wss,⟨⟨a,rfl,hw⟩,hs⟩,by rw [bb,bb];exact rw'.app rr⟩
theorem afa:alq K ah0 (λxs H Q=>∃(p q:Addr) (vs ys:List V) (zss:List (List V)),xs=[.ref p,.ref q]/\Rd H p (.lst vs)/\Rd H q (.lst ys)/\Lss H vs zss/\(ys++zss.flatten).length<=sizeLine/\(vs=[]->Q (.ref q) H)/\(vs≠[]->∀l,H l=none->Q (.ref l) (upd H l (.lst (ys++zss.flatten))))):=by
 intro E U H h xs ds Q r hr o
 unfold ah0 at o
 split at o
 .rename_i x y
  cases r with
  |cons r1 r =>
   cases r with
   |cons r2 r =>
    cases r
    cases e1:ur x h with
    |none=>simp only [e1] at o;exact o.elim
    |some xs =>
     cases e2:ur y h with
     |none=>simp only [e1,e2] at o;exact o.elim
     |some ys =>
      cases e3:a03 (λd=>ur d h) xs with
      |none=>simp only [e1,e2,e3] at o;exact o.elim
      |some zss =>
       simp only [e1,e2,e3] at o
       by_cases hl:(ys++zss.flatten).length<=LINE
       .rw [aE hl] at o;obtain ⟨p,vs,rfl,hp,rp⟩:=zu r1 hr e1;obtain ⟨q,us,rfl,hq,rq⟩:=zu r2 hr e2;obtain ⟨wss,hw,rr⟩:=ape hr rp e3;refine ⟨p,q,vs,us,wss,rfl,hp,hq,hw,?_,λz=>?_,λz=>?_⟩
        .have a:=rq.len;have b:=rr.len;rw [av] at hl ⊢;rw [a,b];exact ll hl
        .subst z;cases rp
         rw [aE rfl] at o;exact o U H _ (.refl _ _) r2 hr
        .rw [aS (λw=>z (by subst w;cases rp;rfl))] at o
         exact yf (rq.app rr) hr o
       .rw [aS hl] at o;exact o.elim
 .exact o.elim
end MI
namespace L2
open PyProof.Rows
theorem a7s:isSubtype (.type "range_iterator") (.type "reversed")=pure false:=by rw [fZ];kernel_rfl
section
variable{prog:Program}{w:World}{A:Around}{E:Value->Shared->Prop}{s:Shared}
abbrev atk(n:Int):Obj:={cls:=.type "range_iterator",data:=.fields #[rawInt (n-1),rawInt n,rawInt (-1)]}
theorem as8(h:0<=j):Builtin.Range.rangeSize 0 j 1=j:=by
 rw [rangeSize_one];split<;>omega
theorem ak0(hr:IsRange s.heap r 0 j 1 t u v)(j0:0<=j)(j1:j<2^62)(h:Q (.ref s.heap.objs.size) {s with heap:=s.heap.push (atk j)}) :
  wpAny (model prog w) A (call (.builtin "range.__reversed__") [.ref r]) Q E s:=by
 refine bX gC ⟨_,hr,rfl⟩ F.entry_range_reversed ?_ (F.args_range_reversed_1 _);have sz:=as8 j0;have sm:(Builtin.Range.rangeFitsLong 0 && Builtin.Range.rangeFitsLong j && Builtin.Range.rangeFitsLong 1 && Builtin.Range.rangeFitsLong (-1) && Builtin.Range.rangeFitsLong (0-1) && Builtin.Range.rangeFitsLong j)=true:=by
  have:Builtin.Range.rangeFitsLong j=true:=by unfold Builtin.Range.rangeFitsLong;simp;omega
  simp only [this,Bool.and_true]
  decide
 unfold Builtin.«range.__reversed__»;unfold IsRange at hr
 wp_walk
 simp only [sz];simp only [sm,eV,bi,dC,db];have e:(0:Int)+(j-1)*1=j-1:=by omega
 rw [e];refine af ?_;unfold newFields;exact cA (ar ⟨_,rfl,h⟩)
theorem as9(hr:IsRange s.heap r 0 j 1 t u v)(j0:0<=j)(j1:j<2^62)(h:Q₁ (.ref s.heap.objs.size) {s with heap:=s.heap.push (atk j)}) :
  codeAny (model prog w) A (.call (.builtin "reversed.__new__") ⟨[.type "reversed",.ref r],[]⟩) (wants Q₁ E) s:=by
 have ty:s.TypeIs (.ref r) "range":=⟨_,hr,rfl⟩
 apply fM
 apply af
 refine dl (F.newCall_reversed_1 _) ?_;refine ar ⟨dR F.plain_reversed_new _,cQ F.entry_reversed_new ?_⟩;simp only [bW F.plain_reversed_new];unfold Builtin.«reversed.__new__»
 apply af
 refine dl (newClass_reversed _) ?_
 try dsimp only
 apply af
 refine dl (a:=()) (by first|rfl|kernel_rfl) ?_
 apply af
 refine dl (a:=()) (by first|rfl|kernel_rfl) ?_
 try dsimp only
 apply af
 refine gS ty gC.lookup ?_
 try dsimp only
 apply af
 refine dl (gC.bind _) ?_
 try dsimp only
 have nn:¬ ((Value.builtin "range.__reversed__" == Value.none)=true):=aX
 first
  |rw [aS nn]
  |(show wpAny _ _ (if (Value.builtin "range.__reversed__" == Value.none)=true then _ else _) _ _ _;rw [aS nn])
 apply af
 apply eU
 refine af (m:=runValue (.call (.builtin "range.__reversed__") ⟨[.ref r],[]⟩)) (show wpAny _ _ (call (.builtin "range.__reversed__") [.ref r]) _ _ _ from ak0 hr j0 j1 ?_)
 first
  |exact ar h
  |exact af (ar (ar h))
theorem anv(hr:IsRange s.heap r 0 j 1 t u v)(j0:0<=j)(j1:j<2^62)(h:Q (.ref s.heap.objs.size) {s with heap:=s.heap.push (atk j)}):wpAny (model prog w) A (call (.type "reversed") [.ref r]) Q E s:=by
 refine callType_other (U := "range_iterator") (Q₁:=λobj s1=>obj=.ref s.heap.objs.size/\s1={s with heap:=s.heap.push (atk j)}) (by decide +kernel) F.create_reversed ⟨_,_,F.mro_reversed⟩ F.made_reversed a7s (F.typeCall_reversed_1 _) (as9 hr j0 j1 ⟨rfl,rfl⟩) ?_
 rintro obj s1 ⟨rfl,rfl⟩
 exact ⟨⟨_,aJ _ rfl,rfl⟩,h⟩
end
section
variable{X:Cx}{tg:Expr}
noncomputable def b1r(ta:TA):TI:=λZ H R=>ta Z H λvs H1=>∃j:Int,vs=[.int j]/\0<=j/\j<2^62/\R (Itd (j-1) j.toNat) H1
theorem adg:bootBuiltins "reversed" = some (.type "reversed"):=by first|exact PySem.boot_reversed|exact PyProof.Rows.boot_reversed|kernel_rfl
theorem aw3(hg:Gl X "reversed")(hm:X.mg "reversed" = none)(hg2:Gl X "range")(hm2:X.mg "range" = none)(ha:PA X [a] ta)(hs:starEach [a] X.env=[(false,eval a X.env)]:=by rfl)
  (hs2:starEach [Expr.Call (.Name "range" p2) [a] [] pos2] X.env=[(false,eval (.Call (.Name "range" p2) [a] [] pos2) X.env)]:=by rfl):PI X tg (.Call (.Name "reversed" p) [.Call (.Name "range" p2) [a] [] pos2] [] pos) (b1r ta):=by
 intro pins s Z H R I h
 have inner:wpAny (model X.prog X.w) X.A (eval (.Call (.Name "range" p2) [a] [] pos2) X.env) (λv s1=>∃(j:Int) (r:Addr) (t u w:Tok) (H1:Hp),v=.ref r/\IsRange s1.heap r 0 j 1 t u w/\Inv X pins Z H1 s1/\0<=j/\j<2^62/\R (Itd (j-1) j.toNat) H1) X.xe s:=by
  refine Call_ (a2z I hg2 hm2 boot_range (bO (thn (ha pos2 pins s Z H _ I h) λus s1 ⟨vs,H1,I1,r1,q1⟩=>?_) hs rfl));obtain ⟨j,e,j0,j1,q⟩:=q1;subst e
  cases r1 with
  |cons r rr =>
   cases rr
   obtain ⟨t,rfl⟩:=r;exact call_range_1 ⟨j,_,_,_,_,H1,rfl,IsRange.new ..,I1.kept λb o e=>ai _ e,j0,j1,q⟩
 refine Call_ (a2z I hg hm adg (bO ?_ hs2 rfl));rw [hs2];show wpAny _ _ (spliced ((false,eval (.Call (.Name "range" p2) [a] [] pos2) X.env)::backTo pos (starEach [] X.env))) _ _ s;refine hE (thn inner λv s1 ⟨j,r,t,u,w,H1,ev,hr,I1,j0,j1,q⟩=>i4 ?_);subst ev;refine anv hr j0 j1 ?_;have I2:Inv X pins Z H1 {s1 with heap:=s1.heap.push (atk j)}:=I1.kept (t':=s1.toks) λb o e=>ai _ e
 have st:IsRangeIter (s1.heap.push (atk j)) s1.heap.objs.size (j-1) j (-1):=aJ _ rfl;refine fU st ?_;refine ⟨s1.heap.objs.size,[s1.heap.objs.size],_,_,H1,rfl,I2,aj8 _ (j-1) j.toNat,?_,λb hb=>?_,q⟩
 .show IsRangeIter _ _ (j-1-((0:Nat):Int)) ((j.toNat:Int)-((0:Nat):Int)) (-1);rw [show j-1-((0:Nat):Int)=j-1 by omega,show (j.toNat:Int)-((0:Nat):Int)=j by omega]
  exact st
 .have e:b=s1.heap.objs.size:=by simpa using hb
  subst e;exact I1.fpOk (aA _) (I1.hok.fresh (aA _))
end
end L2
namespace MI
open L2
def Bz(j:Int):Prop:=0<=j/\j<2^62
instance (j:Int):Decidable (Bz j):=by unfold Bz;exact inferInstance
noncomputable def asa(ds:List D)(h:Hd):R Itm:=match ds with
 |[.int j]=>if Bz j then .ok ⟨an0 (j-1) j.toNat,λ_=>True⟩ h else .no
 |_=>.no
theorem aw4(hg:Gl X "reversed")(hm:X.mg "reversed" = none)(hg2:Gl X "range")(hm2:X.mg "range" = none)(ha:MA X E [a] k)(hs:starEach [a] X.env=[(false,eval a X.env)]:=by rfl)
  (hs2:starEach [Expr.Call (.Name "range" p2) [a] [] pos2] X.env=[(false,eval (.Call (.Name "range" p2) [a] [] pos2) X.env)]:=by rfl):MI X E tg (.Call (.Name "reversed" p) [.Call (.Name "range" p2) [a] [] pos2] [] pos) (sRg asa k):=by
 rintro pins s Z H Rr I ⟨U,τ,h,S,Rh,o⟩
 refine aw3 hg hm hg2 hm2 ha hs hs2 pins s Z H Rr I ⟨U,τ,h,S,Rh,dh o λds h1 U1 H1 vs g1 r1 hr1 o1=>?_⟩;unfold asa at o1
 split at o1
 .rename_i j
  cases r1 with
  |cons r rs =>
   cases r;cases rs
   by_cases hb:Bz j
   .rw [aE hb] at o1;exact ⟨j,rfl,hb.1,hb.2,o1 U1 H1 _ (.refl _ _) (avt (j-1) j.toNat) hr1⟩
   .rw [aS hb] at o1;exact o1.elim
 .exact o1.elim
theorem ak1(h:n<=LINE):Bz (n:Int):=by
 have:n<=16777216:=h
 unfold Bz;omega
theorem anw(n:Nat):an0 ((n:Int)-1) n=(List.range n).map λi:Nat=>D.int ((n-1-i:Nat)):=by
 unfold an0;refine ce λi hi=>?_;have:=bE.mp hi;exact ah D.int (by omega)
theorem anx(h:Hd)(z:n<=LINE):asa [.int (n:Nat)] h=.ok ⟨(List.range n).map λi:Nat=>D.int ((n-1-i:Nat)),λ_=>True⟩ h:=by
 have e:asa [.int (n:Nat)] h=if Bz (n:Int) then R.ok (⟨an0 ((n:Int)-1) (n:Int).toNat,λ_=>True⟩:Itm) h else .no:=rfl
 have b:=ak1 z
 clear z
 rw [e,aE b,cv,anw]
theorem aw5{α β:Type}(a:α)(h:Hd)(k:α->Hd->R β):(R.ok a h).bind k=k a h:=rfl
theorem aw6(e:f τ h=.ok (.int (n:Nat)) h)(z:n<=LINE):sRg asa (aj f bz) τ h=.ok ⟨(List.range n).map λi:Nat=>D.int ((n-1-i:Nat)),λ_=>True⟩ h:=by
 have a:aj f bz τ h=.ok [.int (n:Nat)] h:=by unfold aj bz;rw [e];rfl
 have q:=anx h z;unfold sRg;rw [a];rw [aw5,q]
end MI
namespace ENG
open L2 MI
def a9u:SS :=
 (jg (sIf (sT (s2 hEq (s2 gIx (sV 0) (sC (.int 0))) (sC (.str "one"))))
 (o9 (sA ww bz))
 sNx)
 (jg (sIf (sOr (sT (s2 hEq (s2 gIx (sV 0) (sC (.int 0))) (sC (.str "row")))) (sT (s2 hEq (s2 gIx (sV 0) (sC (.int 0))) (sC (.str "either")))))
 (o9 (s2 gIx (sV 0) (sC (.int 1))))
 sNx)
 (o9 (sA ww (aj (s2 gIx (sV 0) (sC (.int 1))) bz)))))
def zb(ik:SF)(jk:SF)(uc:SF):SE :=
 (sA (kj false 2 ik) (aj (sV 0) (aj (sV 1) bz)))
def a1s(ik:SF)(jk:SF)(uc:SF):SE :=
 (sV 0)
def zc(ik:SF)(jk:SF)(uc:SF):SE :=
 (sA zj (aj (sA (kj false 4 jk) (aj (sV 1) (aj (sV 3) (aj (sV 2) (aj (sV 0) bz))))) bz))
def a00(ik:SF)(jk:SF)(uc:SF):SS :=
 (jg (n6 2 (sZ (m5 (sIt (sA (kj false 1 uc) (aj (sV 0) bz))) t1 (zb ik jk uc) [1])))
 (jg (n6 3 (sZ (m5 (sIt (sV 2)) (tN 2) (a1s ik jk uc) [])))
 (jg (n6 4 (sZ (m5 (sRg v4 (aj (s2 jo (sA qu (aj (sV 1) bz)) (sC (.int 1))) bz)) t1 (zc ik jk uc) [0,1,3])))
 (o9 (sA ww (aj (sA zj (aj (sV 4) bz)) (aj (sV 2) bz)))))))
def a1j(ph:SF)(pq:SF)(nu:SF):SS :=
 (jg (sIf (sT (s2 hEq (s2 gIx (sV 0) (sC (.int 0))) (sC (.str "one"))))
 (o9 (ahi (a8m (sT (s2 gLt (sV 3) (sA qu (aj (sV 2) bz)))) (sT (s2 (gIn false) (s2 gIx (sV 2) (sV 3)) (s2 gIx (sV 0) (sC (.int 1)))))) (sA uz (aj (s2 jo (sV 3) (sC (.int 1))) bz)) (sA uz bz)))
 sNx)
 (jg (sIf (sT (s2 hEq (s2 gIx (sV 0) (sC (.int 0))) (sC (.str "row"))))
 (o9 (sA (kj false 2 ph) (aj (sV 1) (aj (sV 3) bz))))
 sNx)
 (jg (sIf (sT (s2 hEq (s2 gIx (sV 0) (sC (.int 0))) (sC (.str "either"))))
 (o9 (ajq (sIt (sV 1)) (sIt (s2 gIx (sV 0) (sV 2))) (sV 1) [3]))
 sNx)
 (jg (sIf (sT (s2 hEq (s2 gIx (sV 0) (sC (.int 0))) (sC (.str "many"))))
 (o9 (sA (kj false 2 pq) (aj (s2 gIx (sV 1) (sC (.int 0))) (aj (sV 3) bz))))
 sNx)
 (o9 (sA (kj false 4 nu) (aj (s2 gIx (sV 1) (sC (.int 0))) (aj (sV 3) (aj (s2 gIx (sV 0) (sC (.int 2))) (aj (s2 gIx (sV 0) (sC (.int 3))) bz))))))))))
def abx:SS :=
 (o9 (ajq (sIt (sV 1)) (sIt (s2 gIx (sV 2) (sV 0))) (sV 1) [0]))
def a0v(dg:SF):SS :=
 (n6 2 (sA (kj false 2 dg) (aj (sV 3) (aj (sV 2) bz))))
def yo(dg:SF):SS :=
 (jg (n6 2 (sZ (sA uz (aj (sV 1) bz))))
 (jg (a8o (sIt (sV 0)) (kN 3) (a0v dg))
 (o9 (sV 2))))
def a0w(dg:SF):ST :=
 (sT (s2 gGt (sA qu (aj (sV 3) bz)) (sA qu (aj (sV 2) bz))))
def a0x(dg:SF):SS :=
 (jg (n6 2 (sV 3))
 (n6 3 (sZ (sSU (sV 2) (sA (kj false 2 dg) (aj (sV 0) (aj (sV 2) bz)))))))
def yp(dg:SF):SS :=
 (jg (n6 2 (sZ (sA uz bz)))
 (jg (n6 3 (sZ (sA uz (aj (sV 1) bz))))
 (jg (sWh (a0w dg) (a0x dg) 100000)
 (o9 (sV 2)))))
def xq(dg:SF):SS :=
 (jg (sIf (sT (s2 gGe (sV 6) (sV 2)))
 (a8c (sML amx (sV 4) (aj (sV 5) bz)))
 sNx)
 (n6 5 (sA (kj false 2 dg) (aj (sV 0) (aj (sV 5) bz)))))
def xr(dg:SF):SS :=
 (jg (n6 4 (sA uz bz))
 (jg (n6 5 (sZ (sA uz (aj (sV 1) bz))))
 (jg (a8o (sRg v4 (aj (s2 jo (sV 3) (sC (.int 1))) bz)) (kN 6) (xq dg))
 (o9 (s1 a7p (sV 4))))))
def a1k:SS :=
 (jg (sIf (sT (s2 hEq (s2 gIx (sV 0) (sC (.int 0))) (sC (.str "one"))))
 (o9 sNo)
 sNx)
 (jg (sIf (sOr (sT (s2 hEq (s2 gIx (sV 0) (sC (.int 0))) (sC (.str "row")))) (sT (s2 hEq (s2 gIx (sV 0) (sC (.int 0))) (sC (.str "either")))))
 (o9 (s2 gIx (sV 0) (sC (.int 1))))
 sNx)
 (o9 (sA ww (aj (s2 gIx (sV 0) (sC (.int 1))) bz)))))
def a1l(az:SF):SE :=
 (s2 gIx (sV 2) (sA (kj false 2 az) (aj (sV 1) (aj (sA qu (aj (sV 2) bz)) bz))))
def a2q(az:SF):SS :=
 (jg (n6 3 (sA (kj false 2 az) (aj (sV 0) (aj (s2 jo (sV 2) (sC (.int 1))) bz))))
 (o9 (sMS a8e (sC (.str "")) (aj (sZ (m5 (sRg v4 (aj (sV 3) bz)) t1 (a1l az) [0,1])) bz))))
def a5x:SS :=
 (n6 2 (sZ (s2 jo (sV 2) (s2 gIx (sV 1) (sV 3)))))
def a4j:SS :=
 (jg (n6 2 (sZ (sA uz bz)))
 (jg (a8o (sIt (sV 0)) (kN 3) a5x)
 (o9 (s1 a7p (sV 2)))))
def a0j:SE :=
 (sZ (sA uz (aj (sV 0) bz)))
def a0k:SS :=
 (sIf (sT (s2 gGt (sV 3) (sV 2)))
 (aej (sZ (s2 jo (s2 gIx (sV 1) (sV 2)) (s2 gIx (sV 1) (sV 3)))) (sV 1) (sV 2))
 sNx)
def yq:SS :=
 (jg (a8o (sIt (s2 gIx (sV 0) (sV 2))) (kN 3) a0k)
 (aej (sZ (s1 a7p (s2 gIx (sV 1) (sV 2)))) (sV 1) (sV 2)))
def a1m:SS :=
 (jg (n6 1 (m5 (sRg v4 (aj (sA qu (aj (sV 0) bz)) bz)) t1 a0j []))
 (jg (a8o (sRg asa (aj (sA qu (aj (sV 0) bz)) bz)) (kN 2) yq)
 (o9 (sV 1))))
def a8f(iu:SF):SE :=
 (sZ (sA uz (aj (sV 0) bz)))
def a3e(iu:SF):SE :=
 (sZ (sA uz bz))
def yr(iu:SF):SE :=
 (sZ (s1 a7p (sZ (s2 jo (sV 0) (sV 1)))))
def a3f(iu:SF):SE :=
 (sA (kj false 2 iu) (aj (sV 0) (aj (sV 1) bz)))
def a0l(iu:SF):SS :=
 (jg (sIf (sT (s2 gGe (sV 5) (sV 1)))
 (n6 4 (sZ (m5 (ad1 (sV 4) (sV 3)) (tN 2) (yr iu) [])))
 sNx)
 (n6 3 (sZ (m5 (sIt (sV 3)) t1 (a3f iu) [0]))))
def a1n(iu:SF):SS :=
 (jg (n6 3 (sZ (m5 (sRg v4 (aj (sA qu (aj (sV 0) bz)) bz)) t1 (a8f iu) [])))
 (jg (n6 4 (sZ (m5 (sRg v4 (aj (sA qu (aj (sV 0) bz)) bz)) t1 (a3e iu) [])))
 (jg (a8o (sRg v4 (aj (s2 jo (sV 2) (sC (.int 1))) bz)) (kN 5) (a0l iu))
 (o9 (sV 4)))))
def aby(iu:SF):SE :=
 (sZ (sA uz (aj (sV 0) bz)))
def abz(iu:SF):SE :=
 (sA (kj false 2 iu) (aj (sV 0) (aj (sV 1) bz)))
def a5y(iu:SF):SS :=
 (n6 2 (sZ (m5 (sIt (sV 2)) t1 (abz iu) [3])))
def a4k(iu:SF):SS :=
 (jg (n6 2 (sZ (m5 (sRg v4 (aj (s2 jo (sV 1) (sC (.int 1))) bz)) t1 (aby iu) [])))
 (jg (a8o (sIt (sV 0)) (kN 3) (a5y iu))
 (o9 (sV 2))))
def a2c(iz:SF)(j8:SF)(j7:SF)(ju:SF)(j6:SF):SE :=
 (sZ (a2a (sZ (sA uz (aj (s2 jo (sV 0) (sC (.int 1))) bz))) oN (oS (sA agg (aj (a3o (s2 hNe (a2a (sV 2) (oS (sV 0)) (oS (s2 jo (sV 0) (sC (.int 1))))) (sC (.str ""))) (s2 (gIn false) (a2a (sV 2) (oS (sV 0)) (oS (s2 jo (sV 0) (sC (.int 1))))) (s2 gIx (sV 1) (sC (.int 1))))) bz)))))
def a2d(iz:SF)(j8:SF)(j7:SF)(ju:SF)(j6:SF):SE :=
 (sA (kj false 2 j8) (aj (sV 0) (aj (sV 1) bz)))
def a2e(iz:SF)(j8:SF)(j7:SF)(ju:SF)(j6:SF):SE :=
 (s2 gIx (sV 0) (sC (.int 0)))
def a2f(iz:SF)(j8:SF)(j7:SF)(ju:SF)(j6:SF):SE :=
 (s2 gIx (sV 0) (sV 1))
def a0g(iz:SF)(j8:SF)(j7:SF)(ju:SF)(j6:SF):SE :=
 (sZ (s1 a7p (sZ (sA ah0 (aj (sZ (m5 (sIt (sV 1)) t1 (a2f iz j8 j7 ju j6) [0])) (aj (sZ (sA uz bz)) bz))))))
def a2g(iz:SF)(j8:SF)(j7:SF)(ju:SF)(j6:SF):SS :=
 (jg (n6 2 (sA qu (aj (sV 1) bz)))
 (jg (sIf (sT (s2 hEq (s2 gIx (sV 0) (sC (.int 0))) (sC (.str "one"))))
 (o9 (sA uz (aj (sZ (m5 (sRg v4 (aj (s2 jo (sV 2) (sC (.int 1))) bz)) t1 (a2c iz j8 j7 ju j6) [0,1])) bz)))
 sNx)
 (jg (n6 3 (sZ (m5 (sIt (sA (kj false 1 j7) (aj (sV 0) bz))) t1 (a2d iz j8 j7 ju j6) [1])))
 (jg (n6 4 (sZ (m5 (sIt (sV 3)) t1 (a2e iz j8 j7 ju j6) [])))
 (jg (sIf (sT (s2 hEq (s2 gIx (sV 0) (sC (.int 0))) (sC (.str "many"))))
 (n6 5 (sA (kj false 1 iz) (aj (s2 gIx (sV 4) (sC (.int 0))) bz)))
 (sIf (sT (s2 hEq (s2 gIx (sV 0) (sC (.int 0))) (sC (.str "times"))))
 (n6 5 (sA (kj false 3 j6) (aj (s2 gIx (sV 4) (sC (.int 0))) (aj (s2 gIx (sV 0) (sC (.int 2))) (aj (s2 gIx (sV 0) (sC (.int 3))) bz)))))
 (sIf (sT (s2 hEq (s2 gIx (sV 0) (sC (.int 0))) (sC (.str "row"))))
 (n6 5 (sA (kj false 2 ju) (aj (sV 4) (aj (sV 2) bz))))
 (n6 5 (sZ (m5 (sRg v4 (aj (s2 jo (sV 2) (sC (.int 1))) bz)) t1 (a0g iz j8 j7 ju j6) [4]))))))
 (o9 (s2 jo (sZ (sA uz (aj (sV 5) bz))) (sZ (sA ah0 (aj (sV 3) (aj (sZ (sA uz bz)) bz)))))))))))
end ENG
namespace L2
open PyProof.Rows
def isB(b:Bool):Value->Bool
 |.bool a=>a == b
 |_=>false
def ak2(K:PySem.W.Frag):V->List V->Hp->VK->Prop:=λx vs H Q=>∃(l:Addr) (bs:List Bool) (j:Nat),x=.ref l/\vs=[.bl true]/\SqL K H l (bs.map V.bl)/\bs[j]? = some true/\(∀i,i<j->bs[i]? = some false)/\Q (.int (j:Nat)) H
theorem ak3{X:Cx}:MtR X "list.index" (ak2 X.K):=by
 intro pins s Z H x vs v us Q I rx rv h
 obtain ⟨l,bs,j,rfl,rfl,hq,p1,p2,q⟩:=h;cases rx
 obtain ⟨u,rfl,ru⟩:=rv.one;have ru:u=.bool true:=ru;subst ru;obtain ⟨its,r,⟨⟨cls,dict,data,slots⟩,m,e1,e2,e3,e4⟩,hz⟩:=I.list hq;have e2:cls=.type "list":=e2;have e3:dict=none:=e3;have e4:data=.seq its.toArray m:=e4;subst e2 e3 e4;have hl:its.length=bs.length:=by have:=r.length;simp at this;omega
 have each:∀i (h:i<its.length),∃a,its[i]=.bool a/\bs[i]? = some a:=λi h=>by
  obtain ⟨y,h1,h2⟩:=r.get (show (bs.map V.bl)[i]? = some (V.bl (bs[i]'(by omega))) by rw [aN,ag (by omega)];rfl)
  have h2:y=.bool _:=h2;exact ⟨_,(am.mp h1).2.trans h2,ag _⟩
 have jl:j<bs.length:=(am.mp p1).1;rw [ax] at hz;rw [fB] at hz;refine gM F.slot_list_index ⟨_,e1,rfl⟩ F.entry_list_index (F.args_list_index_2 _ _)
  (SeqAt.list_indexAt l its.toArray m none slots (.bool true) (isB true) j (by simp;omega) (by omega) ?_ ?_) ⟨e1,λy hy=>?_,.int (j:Nat),H,I.tok _,⟨_,rfl⟩,q⟩
 .obtain ⟨a,h1,h2⟩:=each j (by omega)
  rw [p1] at h2;cases h2
  rw [List.getElem_toArray,h1];rfl
 .intro i hi hij
  obtain ⟨a,h1,h2⟩:=each i (by simpa using hi)
  rw [p2 i hij] at h2;cases h2
  rw [List.getElem_toArray,h1];rfl
 .obtain ⟨i,hi,rfl⟩:=List.getElem_of_mem (List.mem_toArray.mp hy);obtain ⟨a,h1,_⟩:=each i hi;rw [h1];exact SeqAt.EqAt.bool_bool a true
end L2
namespace MI
open L2
def blD:D->Option Bool
 |.bl b=>some b
 |_=>none
noncomputable def ixB:List Bool->Option Nat
 |[]=>none
 |b::l=>if b=true then some 0 else (ixB l).map (·+1)
theorem ak4:∀{l:List Bool} {j:Nat},ixB l=some j->l[j]? = some true/\∀i,i<j->l[i]? = some false
 |[],_,h=>by cases h
 |b::l,j,h=>by
  unfold ixB at h
  split at h
  .rename_i e;cases h
   exact ⟨by rw [e];rfl,λi hi=>absurd hi (fL i)⟩
  .rename_i e;obtain ⟨k,hk,rfl⟩:=aQ.mp h;obtain ⟨h1,h2⟩:=ak4 hk;refine ⟨h1,λi hi=>?_⟩
   cases i with
   |zero =>
    have:b=false:=by simpa using e
    rw [this];rfl
   |succ i=>exact h2 i (fW hi)
theorem afb:∀{l:List Bool},true∈l->∃j,ixB l=some j
 |[],h=>by cases h
 |b::l,h=>by
  unfold ixB
  split
  .exact ⟨0,rfl⟩
  .rename_i e
   rcases aC.mp h with h|h
   .exact absurd h.symm e
   .obtain ⟨j,hj⟩:=afb h;exact ⟨j+1,by rw [hj];rfl⟩
noncomputable def a5j(d:D)(ds:List D)(h:Hd):R D:=match ur d h,ds with
 |some xs,[.bl true]=>(match a03 blD xs with|some bs=>(match ixB bs with|some j=>.ok (.int (j:Nat)) h|none=>.no)|none=>.no)
 |_,_=>.no
theorem ak5{K:PySem.W.Frag}{U:List Addr}{H:Hp}:∀{vs:List V} {xs:List D} {bs:List Bool},Reps K U H vs xs->a03 blD xs=some bs->vs=bs.map V.bl
 |_,_,_,.nil,e=>by cases e;rfl
 |_,_,bs,.cons (d:=d) (ds:=ds) r rs,e=>by
  have:∃b bs',blD d=some b/\a03 blD ds=some bs'/\bs=b::bs':=by
   simp only [a03] at e
   cases h1:blD d with
   |none=>rw [h1] at e;cases e
   |some b =>
    cases h2:a03 blD ds with
    |none=>rw [h1,h2] at e;cases e
    |some bs'=>rw [h1,h2] at e;cases e;exact ⟨b,bs',rfl,rfl,rfl⟩
  obtain ⟨b,bs',h1,h2,rfl⟩:=this
  cases r with
  |bl b'=>cases h1;rw [ak5 rs h2];rfl
  |_=>cases h1
theorem ah1{K:PySem.W.Frag}:atg K a5j (ak2 K):=by
 intro E U H h x dx xs ds Q rx r hr o
 unfold a5j at o
 split at o
 .rename_i xs' e
  cases r with
  |cons r rs =>
   cases r;cases rs
   split at o
   .rename_i bs eb
    split at o
    .rename_i j hj;obtain ⟨p,us,rfl,q1,q2⟩:=zu rx hr e;obtain ⟨p1,p2⟩:=ak4 hj;rw [ak5 q2 eb] at q1;exact ⟨p,bs,j,rfl,rfl,.inl q1,p1,p2,ans o (.int _) hr⟩
    .exact o.elim
   .exact o.elim
 .exact o.elim
theorem azb{bs:List Bool}{j:Nat}{h:Hd}(e:ixB bs=some j):a5j (.rol (bs.map D.bl)) [.bl true] h=.ok (.int (j:Nat)) h:=by
 have o:∀l:List Bool,a03 blD (l.map D.bl)=some l:=λl=>by
  induction l with
  |nil=>rfl
  |cons b l ih=>rw [aT];simp only [a03,ih];rfl
 unfold a5j ur;simp only [o,e]
end MI
namespace L2
open PyProof.Rows
noncomputable def cxD(X:Cx)(N:List Str)(scope:Scope)(cl:List (Str×Addr))(t:Str)(C:Addr)(fp:List Addr)(s:Shared)(H:Hp):Cx where
 prog:=X.prog
 w:=X.w
 K:=X.K
 mg:=X.mg
 base:=X.base
 A:=X.A
 N:=N
 s₀:=s
 H₀:=H
 env:=compEnvC scope ((t,C+1)::cl) C X.env
 outer:=X.stack
 stack:=X.stack
 ex:=fp
 fn:=λx=>x == t
 calm:=X.calm
 pn:=[]
 xe:=λ_ _=>False
structure CSd (X:Cx) (scope:Scope) (cl:List (Str×Addr)) (t:Str) (ts fr:List Str) (ix:List Nat):Prop where
 clos:closureFor scope X.env=pure cl
 kind:scope.kind=.function
 own:∀a,cellsFrom a scope.names cl=(t,a)::cl
 push:∀h,pushCells h scope.names=h.push {cls:=.type "cell",data:=.cell none}
 names:∀y∈scope.names,y.2=.local->scope.names.lookup y.1=some .local
 sub:∀y c,cl.lookup y=some c->X.env.cells.lookup y=some c
 has:∀y,((relabel scope X.env).names.lookup y=some .cell\/(relabel scope X.env).names.lookup y=some .free)->y=t\/∃c,cl.lookup y=some c
 len:ix.length=fr.length
 vis:∀(j:Nat) (y:Str),fr[j]? = some y->y≠t/\∃i:Nat,ix[j]? = some i/\X.N[i]? = some y/\(X.env.kindOf y=some .cell\/X.env.kindOf y=some .free)/\((relabel scope X.env).names.lookup y=some .cell\/(relabel scope X.env).names.lookup y=some .free)
theorem look{cl:List (Str×Addr)}(e:((t,a)::cl).lookup y=some c):(y=t/\c=a)\/(y≠t/\cl.lookup y=some c):=by
 rw [iF] at e
 cases hb:y == t with
 |true=>rw [hb] at e;cases e;exact .inl ⟨gN.mp hb,rfl⟩
 |false=>rw [hb] at e;exact .inr ⟨λz=>by rw [z] at hb;simp at hb,e⟩
theorem ak6{cl:List (Str×Addr)}(ne:y≠t)(e:cl.lookup y=some c):((t,a)::cl).lookup y=some c:=by
 rw [iF];have hb:(y == t)=false:=by rw [da];exact ne
 rw [hb];exact e
theorem apf{t:Str}{a:Addr}{cl:List (Str×Addr)}:((t,a)::cl).lookup t=some a:=by rw [iF];simp
theorem no1(h:C+1<n)(h':n<=C):False:=by omega
theorem no2(h:b<n)(h':n<=C):C+1≠b:=by omega
theorem no3(h:C+1=n)(h':n<=C):False:=by omega
theorem asb{M:Model}{A:Around}{E:Value->Shared->Prop}{s:Shared}{scope:Scope}{globals:Addr}{cl:List (Str×Addr)}{t:Str}{qual:Str}{func:Option Addr}{code:Value}{outer:Env}{builtins:Addr}{Q:Env->Shared->Prop}
  (own:∀a,cellsFrom a scope.names cl=(t,a)::cl) (push:∀h,pushCells h scope.names=h.push {cls:=.type "cell",data:=.cell none}) (hk:scope.kind=.function)
  (hQ:∀h':Heap,h'.Ns s.heap.objs.size (λ_=>none)->h'.IsCell (s.heap.objs.size+1) none->(∀b o,s.heap.get? b=some o->h'.get? b=some o)->Q (newEnv scope s.heap.objs.size globals ((t,s.heap.objs.size+1)::cl) qual func code (some outer) builtins) {s with heap:=h' }) :
  wpAny M A (newFunctionEnv scope globals cl [] qual func code (some outer) builtins) Q E s:=by
 simp only [newFunctionEnv,Option.isSome_some,db];refine af (wpAny_alloc ?_);refine af (wpAny_layCells _ (λname kind cells=>by cases hkc:kind == NameKind.cell<;>simp [hkc]) _ _ _ _ ?_)
 rw [own,push];simp only [iR];refine af (ar (ar ?_));have sz:({s with heap:=s.heap.push {cls:=.type "dict",data:=.dict #[]} }:Shared).heap.objs.size=s.heap.objs.size+1:=cB ..
 rw [sz];refine hQ _ ((Heap.Ns.new s.heap (.type "dict")).keeps λb o e=>ai _ e) ⟨{cls:=.type "cell",data:=.cell none},?_,rfl⟩ λb o e=>ai _ (ai _ e);rw [<-sz];exact aJ _ rfl
section
variable{X:Cx}
theorem ak7{pins:List (Addr×Obj)}{Z:St}{H:Hp}{s:Shared}{scope:Scope}{cl:List (Str×Addr)}{t:Str}{ts fr:List Str}{ix:List Nat}{C:Addr}{fp:List Addr}(S:CSd X scope cl t ts fr ix)(I:Inv X pins Z H s)
  (hf:∀b∈fp,FpOk X pins H b) (hb:∀b∈fp,b<s.heap.objs.size) (hC:s.heap.objs.size<=C):(cxD X (ts++fr) scope cl t C fp s H).Ok where
 mod:=I.ok.mod
 kind:=S.kind
 glob:=I.ok.glob
 blt:=I.ok.blt
 above:=hC
 inj:=λx y c h1 h2=>by
  have small:∀z c,cl.lookup z=some c->c<s.heap.objs.size:=λz c e=>let ⟨_,q⟩:=I.cell z c (S.sub z c e);q.lt
  rcases look h1 with ⟨e1,rfl⟩|⟨_,e1⟩<;>rcases look h2 with ⟨e2,e3⟩|⟨_,e2⟩
  .rw [e1,e2]
  .exact (no1 (small y _ e2) hC).elim
  .rw [e3] at e1;exact (no1 (small x _ e1) hC).elim
  .exact I.ok.inj x y c (S.sub x c e1) (S.sub y c e2)
 has:=λy z=>by
  rcases S.has y z with rfl|⟨c,e⟩
  .exact ⟨_,apf⟩
  .by_cases h:y=t
   .subst h;exact ⟨_,apf⟩
   .exact ⟨c,ak6 h e⟩
 cab:=λx c h e=>by
  rcases look e with ⟨_,rfl⟩|⟨ne,_⟩
  .show s.heap.objs.size<=C+1;omega
  .exact absurd (gN.mp h) ne
 hd:=I.ok.hd
 frames:=I.ok.frames
 stk:=.inl rfl
 exf:=λb hb'=>⟨aV (aM (hb b hb') hC),λx c e=>by
  rcases look e with ⟨_,rfl⟩|⟨_,e⟩
  .exact no2 (hb b hb') hC
  .exact (hf b hb').2.2.2.2.1 x c (S.sub x c e)⟩
 bs:=λb o e=>I.bs b o e
 bsz:=aW I.ok.bsz I.sz
 noex:=λb o e hb'=>by
  rcases (hf b hb').2.2.2.1 with z|z
  .exact I.ok.noex b o e z
  .exact absurd (aM (aG e) (aW I.ok.bsz z)) (bC _)
 exfs:=λb hb' z=>by
  rcases aC.mp (I.stkSub b z) with e|e
  .exact (hf b hb').2.1 e
  .exact (hf b hb').2.2.1 e
 funs:=I.stack
 frf:=λb hb'=>I.stkFree b hb'
theorem asd{s s4:Shared}{ts:List Str}(S:CSd X scope cl t ts fr ix)(I:Inv X pins Z H s)
  (hf:∀b∈fp,FpOk X pins H b) (hb:∀b∈fp,b<s.heap.objs.size) (hC:s.heap.objs.size<=C)
  (k:∀b o,s.heap.get? b=some o->s4.heap.get? b=some o) (hn:s4.heap.Ns C m) (hcl:s4.heap.IsCell (C+1) none) (ho:s4.os=s.os) (hg:s4.gens=s.gens) :
  Inv (cxD X (ts++fr) scope cl t C fp s H) [] (uo ts.length ix Z) H s4 where
 ok:=ak7 S I hf hb hC
 os:=ho
 bare:=by rw [hg];exact I.bare
 base:=Un.kept k
 loc:=by
  refine ⟨m,hn,λi x v e1 e2 e3=>?_⟩;have e1:(ts++fr)[i]? = some x:=e1
  by_cases hi:i<ts.length
  .unfold uo at e2;rw [aP (by simpa using hi),dB,aE hi] at e2
   cases e2
  .rw [aB (by omega)] at e1
   unfold uo at e2;rw [aB (by simpa using hi),cG,aN] at e2
   obtain ⟨nt,j,h1,h2,h3,h4⟩:=S.vis _ x e1;rw [h1] at e2;have e2':(Z[j]?).join=some v:=bK e2;have e5:Z[j]? = some (some v):=by
    cases q:Z[j]? with
    |none=>rw [q] at e2';cases e2'
    |some o=>rw [q] at e2';simp at e2';rw [e2']
   obtain ⟨m0,_,hl⟩:=I.loc;have vis:Vis X.env.scope x:=h3.elim (λz=>.inr (.inl z)) λz=>.inr (.inr z);obtain ⟨u,ru,l⟩:=hl j x v h2 e5 vis;refine ⟨u,ru,?_⟩
   rcases l with ⟨z,_⟩|⟨_,c,hc,hcell⟩
   .rcases h3 with h3|h3<;>rw [h3] at z<;>cases z
   .rcases S.has x h4 with z|⟨c',hc'⟩
    .exact absurd z nt
    .have e6:c'=c:=bK ((S.sub x c' hc').symm.trans hc);subst e6;obtain ⟨o,ho,hd⟩:=hcell;exact .inr ⟨h4,c',ak6 nt hc',o,k _ _ ho,hd⟩
 cell:=λx c e=>by
  rcases look e with ⟨_,rfl⟩|⟨_,e⟩
  .exact ⟨_,hcl⟩
  .obtain ⟨v,o,ho,hd⟩:=I.cell x c (S.sub x c e);exact ⟨v,o,k _ _ ho,hd⟩
 free:=I.hok.fresh hC
 freeC:=λx c e=>by
  rcases look e with ⟨_,rfl⟩|⟨_,e⟩
  .exact I.hok.fresh (by omega)
  .exact I.freeC x c (S.sub x c e)
 pin:=λp hp=>absurd (show p∈([]:List (Addr×Obj)) from hp) (by simp)
 hok:=I.hok.kept k
 len:=by
  rw [a8k];show _=(ts++fr).length;rw [av,S.len]
theorem ah2{its:List Value}(I:Inv X pins Z H s)
  (hf:∀b∈fp,FpOk X pins H b) (hC:s.heap.objs.size<=C) (hacc:s.heap.objs.size<=acc) (hCa:C≠acc)
  (J:Inv (cxD X N scope cl t C fp s H) [] Z' H' s') (hn:H' acc=none) (ha:s'.heap.get? acc=some {cls:=.type "list",data:=.seq its.toArray n}) (rv:Vals ys its) (hz:ys.length<=sizeLine) (sb:Heap.SameBut C s'.heap h') :
  Inv X pins Z (upd H' acc (.lst ys)) {s' with heap:=h' }:=by
 have k:∀b o,b≠C->s'.heap.get? b=some o->h'.get? b=some o:=λb o hb e=>sb.extBut b o hb e;have old:∀b o,s.heap.get? b=some o->b≠C/\b≠acc:=λb o e=>⟨aV (aM (aG e) hC),aV (aM (aG e) hacc)⟩;have u0:Un (frs X.stack) fp H H' s.heap s'.heap:=J.base;have fC:H' C=none:=J.free;have u:Un (frs X.stack) fp H (upd H' acc (.lst ys)) s.heap h':=by
  refine ⟨λb o e n' hb hx=>k b o (old b o e).1 (u0.keep b o e n' hb hx),λb o e n' hb hx=>?_,λb o e n' hx=>?_,λb o e hx=>?_,λb xs e=>?_,λb o v e=>?_,λb ps e=>?_⟩
  .obtain ⟨sl,e1⟩:=u0.slot b o e n' hb hx;exact ⟨sl,k b _ (old b o e).1 e1⟩
  .rw [jc (old b o e).2];exact u0.free b o e n' hx
  .obtain ⟨o',e1⟩:=u0.there b o e hx;exact ⟨o',k b _ (old b o e).1 e1⟩
  .rw [jc (gm (u0.tups b xs e) hn)];exact u0.tups b xs e
  .rw [jc (gm (u0.frzs b o v e) hn)];exact u0.frzs b o v e
  .obtain ⟨more,e1⟩:=u0.tbls b ps e;exact ⟨more,by rw [jc (gm e1 hn)];exact e1⟩
 have hok:HOk X.prog X.w (upd H' acc (.lst ys)) h':=λb o e=>by
  by_cases hb:b=acc
  .subst hb;rw [km] at e;cases e
   exact ⟨hz,its,n,rv,k _ _ (ee hCa) ha⟩
  .rw [jc hb] at e;refine (J.hok b o e).stay (λc v hc q=>k c v ?_ q) (λc q=>by rw [jc (gm q hn)];exact q) λc xs q=>by rw [jc (gm q hn)];exact q
   rcases hc with z|z
   .rw [z];exact gm e fC
   .exact gm z fC
 have J':=I.call (g':=s'.gens) (t':=s'.toks) (d':=s'.drawn) (ch:=fp) u hok J.bare λb hb=>⟨(hf b hb).2.2.2.1,(hf b hb).2.1,(hf b hb).2.2.2.2.1,(hf b hb).2.2.2.2.2⟩;have eo:s'.os=s.os:=J.os;obtain ⟨hp,g,d,t,o⟩:=s';have eo':o=s.os:=eo;subst eo';exact J'
theorem adh{elt tg iter:Expr}{cnd:Option Expr}{scope:Scope}{pos ppos:Pos}{cl:List (Str×Addr)}{t:Str}{ts fr:List Str}{ix:List Nat}{wi:TI}{g:TG}{tc:TT}{te:TE}(hc:X.calm=true)(S:CSd X scope cl t ts fr ix)(hi:PI X tg iter wi)
  (hg:∀C fp s H,PG (cxD X (ts++fr) scope cl t C fp s H) tg g) (he:∀C fp s H,PE (cxD X (ts++fr) scope cl t C fp s H) elt te) (ht:∀C fp s H,PTO (cxD X (ts++fr) scope cl t C fp s H) cnd tc) (hs:∀x,foldedSetIterable iter X.env x=pure x)
  (use:Option (Value->Sem Unit)) {pins:List (Addr×Obj)} {s:Shared} {Z:St} {H:Hp} {Q:VK} {Qf:Value->Shared->Prop} (I:Inv X pins Z H s) (h:a3k wi (uo ts.length ix) g tc te Z H Q) (fin:a3l X pins Z use Q Qf) :
  wpAny (model X.prog X.w) X.A (comprehension (.ListComp elt [⟨tg,iter,cnd.toList,0⟩] scope pos) scope X.env ppos (newList []) false (eval iter X.env) use) Qf X.xe s:=by
 refine fG (use:=use) rfl hs S.clos S.kind S.names (thn (hi pins s Z H _ I h) λv s1 h1=>thn h1 λitv s2 h2=>?_);obtain ⟨it,fp,tn,J,H2,e,I2,T,st2,f2,W,⟨m0,w0⟩,turn⟩:=h2;subst e;have hob:∀b∈fp,b<s2.heap.objs.size:=λb hb=>let ⟨o,e,_⟩:=T.obj _ _ st2 b hb;aG e;refine cA (asb S.own S.push S.kind λh4 hns4 hc4 hsb4=>?_);dsimp only at hns4 hc4 hsb4 ⊢
 generalize hH2:s2.heap.push {cls:=.type "list",dict:=none,data:=.seq ([]:List Value).toArray}=G at hns4 hc4 hsb4 ⊢
 have hCs:G.objs.size=s2.heap.objs.size+1:=by rw [<-hH2,cB]
 have hCle:s2.heap.objs.size<=G.objs.size:=by omega
 have hne:G.objs.size≠s2.heap.objs.size:=by omega
 have old:∀b o,s2.heap.get? b=some o->h4.get? b=some o:=λb o e=>by
  have hlt:=aG e;exact hsb4 b o (hH2 ▸ ai _ e)
 have hacc:h4.get? s2.heap.objs.size=some {cls:=.type "list",data:=.seq ([]:List Value).toArray 0} :=
  hsb4 _ _ (hH2 ▸ aJ _ rfl)
 have K0:Inv (cxD X (ts++fr) scope cl t G.objs.size fp s2 H2) [] (uo ts.length ix Z) H2 {s2 with heap:=h4} :=
  asd S I2 f2 hob hCle old hns4 hc4 rfl rfl
 have st4:tn 0 h4:=T.keep _ _ _ st2 λb _ o e=>old b o e;have accF:s2.heap.objs.size∉fp:=λz=>bC _ (hob _ z);have stat:∀{H':Hp},(∀b∈fp,H' b=none)->∀b∈fp,FpOk (cxD X (ts++fr) scope cl t G.objs.size fp s2 H2) [] H' b:=λhn b hb =>
  ⟨hn b hb,λz=>by have h1:=hob b hb;have z':b=G.objs.size:=z;exact aV (aM h1 hCle) z',λz=>(ak7 S I2 f2 hob hCle).exfs b hb z,.inl hb,λx c e=>by
   rcases look e with ⟨_,rfl⟩|⟨_,e⟩
   .exact no2 (hob b hb) hCle
   .exact (f2 b hb).2.2.2.2.1 x c (S.sub x c e),λp hp=>absurd (show p∈([]:List (Addr×Obj)) from hp) (by simp)⟩
 have statA:∀{H':Hp},H' s2.heap.objs.size=none->FpOk (cxD X (ts++fr) scope cl t G.objs.size fp s2 H2) [] H' s2.heap.objs.size:=λhn =>
  ⟨hn,λz=>hne (show G.objs.size=s2.heap.objs.size from z.symm),λz=>by
   obtain ⟨_,o,ho,_⟩:=(ak7 S I2 f2 hob hCle).funs.mem z;exact bC _ (aG ho),.inr (aA _),λx c e z=>by
   rcases look e with ⟨_,rfl⟩|⟨_,e⟩
   .exact no3 z hCle
   .obtain ⟨v,o,ho,_⟩:=I2.cell x c (S.sub x c e);rw [z] at ho;exact bC _ (aG ho),λp hp=>absurd (show p∈([]:List (Addr×Obj)) from hp) (by simp)⟩
 have loop:codeAny (model X.prog X.w) X.A (.compLoop (.ListComp elt [⟨tg,iter,cnd.toList,0⟩] scope pos) 0 (.ref it) (.ref s2.heap.objs.size) (compEnvC scope ((t,G.objs.size+1)::cl) G.objs.size X.env))
   (compPost (model X.prog X.w) X.A X.xe use Qf (.ref s2.heap.objs.size) G.objs.size) {s2 with heap:=h4} :=
  ab6 (Y:=cxD X (ts++fr) scope cl t G.objs.size fp s2 H2) hc (λ_ _ h=>h) rfl T stat statA accF (hg _ _ _ _) (he _ _ _ _) (ht _ _ _ _) turn w0 K0 st4 (λb hb=>(f2 b hb).1) (I2.hok.fresh (aA _)) hacc λs6 H6 ys its k I6 fa rv hz qn=>by
   have e6:=(I6.pin (s2.heap.objs.size,{cls:=.type "list",data:=.seq its.toArray k}) (by show _∈[]++[_];simp)).1
   obtain ⟨m6,hn6,_⟩:=I6.loc;exact fin _ _ s6 _ m6 hn6 (I2.fpOk hCle (by rw [jc hne];exact I6.free)) (λh' sb=>ah2 I2 f2 hCle (aA _) hne I6.unpinned' fa e6 rv hz sb) (qn _ fa)
 exact codeAny_compStart_list loop (T.self _ 0 _ _ _ st4 loop)
theorem ah3{elt tg iter:Expr}{scope:Scope}{pos ppos:Pos}{cl:List (Str×Addr)}{t:Str}{ts fr:List Str}{ix:List Nat}{wi:TI}{g:TG}{te:TE}(hc:X.calm=true)(S:CSd X scope cl t ts fr ix)(hi:PI X tg iter wi)
  (hg:∀C fp s H,PG (cxD X (ts++fr) scope cl t C fp s H) tg g) (he:∀C fp s H,PE (cxD X (ts++fr) scope cl t C fp s H) elt te) (hs:∀x,foldedSetIterable iter X.env x=pure x)
  (use:Option (Value->Sem Unit)) {pins:List (Addr×Obj)} {s:Shared} {Z:St} {H:Hp} {Q:VK} {Qf:Value->Shared->Prop} (I:Inv X pins Z H s) (h:ab4 wi (uo ts.length ix) g te Z H Q) (fin:a3l X pins Z use Q Qf) :
  wpAny (model X.prog X.w) X.A (comprehension (.ListComp elt [⟨tg,iter,[],0⟩] scope pos) scope X.env ppos (newList []) false (eval iter X.env) use) Qf X.xe s:=by
 refine adh (cnd:=none) (tc:=λZ H Q=>Q true H) hc S hi hg he (λ_ _ _ _ pins s Z H Q I h=>ar ⟨H,I,h⟩) hs use I ?_ fin;unfold a3k a99;unfold ab4 ama at h;simpa only [db] using h
end
section
variable{X:Cx}
theorem CSd.of{fr:List Str}{ix:List Nat}(clos:closureFor scope X.env=pure cl)(kind:scope.kind=.function)(own:∀a,cellsFrom a scope.names cl=(t,a)::cl)(push:∀h,pushCells h scope.names=h.push {cls:=.type "cell",data:=.cell none})
  (names:(scope.names.all λp=>p.2 != .local || scope.names.lookup p.1 == some .local)=true) (sub:∀p∈cl,X.env.cells.lookup p.1=some p.2)
  (has:((relabel scope X.env).names.all λp => !(p.2 == .cell || p.2 == .free) || p.1 == t || (cl.lookup p.1).isSome)=true)
  (len:ix.length=fr.length) (vis:((fr.zip ix).all λp=>p.1 != t && X.N[p.2]? == some p.1 && (X.env.kindOf p.1 == some .cell || X.env.kindOf p.1 == some .free) && ((relabel scope X.env).names.lookup p.1 == some .cell || (relabel scope X.env).names.lookup p.1 == some .free))=true) :
  CSd X scope cl t ts fr ix:=by
 refine ⟨clos,kind,own,push,λy hy e=>?_,λy c e=>sub _ (bS e),λy z=>?_,len,λj y e=>?_⟩
 .have:=bY.mp names y hy
  rw [e] at this;simpa using this
 .have key:∀k,(relabel scope X.env).names.lookup y=some k->(k == .cell || k == .free)=true->y=t\/∃c,cl.lookup y=some c:=λk e hk=>by
   have:=bY.mp has _ (bS e)
   rw [hk] at this;simp only [eV,Bool.false_or,iL,gN] at this;exact this.imp id λz=>fF.mp z
  rcases z with z|z
  .exact key _ z rfl
  .exact key _ z rfl
 .obtain ⟨hj,_⟩:=am.mp e;have hj2:j<ix.length:=by omega
  have hm:(y,ix[j])∈fr.zip ix:=by
   refine bv (i:=j) ?_;rw [dY];exact ⟨e,ag hj2⟩
  have:=bY.mp vis _ hm
  simp only [cf,iL,gN,bne_iff_ne,ne_eq] at this;obtain ⟨⟨⟨a,b⟩,c⟩,d⟩:=this;exact ⟨a,ix[j],ag hj2,b,c,d⟩
theorem ak8{spos:Pos}(hN:X.N.Nodup)(hi':X.N[i]? = some x)(hx:Loc X.env.scope x)(hc:X.calm=true)(S:CSd X scope cl t ts fr ix)(hi:PI X tg iter wi)
  (hg:∀C fp s H,PG (cxD X (ts++fr) scope cl t C fp s H) tg g) (he:∀C fp s H,PE (cxD X (ts++fr) scope cl t C fp s H) elt te)
  (hs:∀x,foldedSetIterable iter X.env x=pure x:=by intro _;rfl) (hsw:swapsWith (.ListComp elt [⟨tg,iter,[],0⟩] scope pos) (some (.Name x pos')) spos.line X.env=pure true:=by rfl) (hf:X.fn x=true\/X.env.scope.names.lookup x=some .local:=by first|exact .inl rfl|exact .inr rfl|assumption) :
  PS X (.Assign [.Name x pos'] (.ListComp elt [⟨tg,iter,[],0⟩] scope pos) spos) (au6 (ab4 wi (uo ts.length ix) g te) (a1d i)):=by
 intro pins s Z H D I h
 rw [gA _ _ _ _ hsw];refine af (de (af ?_));refine af (bF (ah3 hc S hi hg he hs (some (assign (.Name x pos') X.env)) I h (a9a hN hi' hx hf)) (λ_ s' hq=>ar (ar hq)) λ_ _ e=>e)
end
end L2
namespace MI
open L2
section
variable{X:Cx}{E:XD}{elt tg iter cnd:Expr}{scope:Scope}{pos spos pos':Pos}{cl:List (Str×Addr)}{tt:Str}{ts fr:List Str}{ix:List Nat}{fi:SI}{g:TG}{t:D->Option Sd}{fe:SE}{fc:ST}{i:Nat}{x:Str}
theorem ak9(hN:X.N.Nodup)(hi':X.N[i]? = some x)(hx:Loc X.env.scope x)(hc:X.calm=true)(S:CSd X scope cl tt ts fr ix)(hi:MI X E tg iter fi)(hg:∀C fp s H,PG (cxD X (ts++fr) scope cl tt C fp s H) tg g)(ht:ahj X.K ts.length g t)(he:∀C fp s H,ME (cxD X (ts++fr) scope cl tt C fp s H) E elt fe)
  (hs:∀x,foldedSetIterable iter X.env x=pure x:=by intro _;rfl) (hsw:swapsWith (.ListComp elt [⟨tg,iter,[],0⟩] scope pos) (some (.Name x pos')) spos.line X.env=pure true:=by rfl) (hf:X.fn x=true\/X.env.scope.names.lookup x=some .local:=by first|exact .inl rfl|exact .inr rfl|assumption) :
  MS X E (.Assign [.Name x pos'] (.ListComp elt [⟨tg,iter,[],0⟩] scope pos) spos) (n6 i (sZ (m5 fi t fe ix))) :=
 PS.weak (aj5 (ak8 (te:=lift X.K E (yx X.K) fe) hN hi' hx hc S hi hg he hs hsw hf)) λN Z H q=>ad2 ht (axx (aev q))
end
end MI
namespace L2
open PyProof.Rows
end L2
namespace MI
open L2
end MI
namespace L2
open PyProof.Rows
end L2
namespace MI
open L2
end MI
namespace L2
open PyProof.Rows
theorem pick_from(vs:List Value){n:Nat}(hn:n<=vs.length):(sliceRange ((n:Int)-1) (-1) (-1)).filterMap (vs.toArray[·]?)=(vs.take n).reverse:=by
 have c:sliceRange ((n:Int)-1) (-1) (-1)=(List.range n).map λk=>n-1-k:=by
  unfold sliceRange;have e:(if (-1:Int) > 0 then (if (n:Int)-1 < -1 then (-1-((n:Int)-1) + -1-1) / -1 else 0) else (if (n:Int)-1 > -1 then ((n:Int)-1 - -1 - -1-1) / (- -1) else 0)).toNat=n:=by
   rw [aS (by decide)]
   by_cases z:n=0
   .subst z;rfl
   .rw [aE (by omega),show (- -1:Int)=1 from rfl,Int.ediv_one];omega
  dsimp only;rw [e];refine ce λk hk=>?_;have:=bE.mp hk;omega
 rw [c,eI];refine eD λi=>?_;have e:(List.range n).filterMap ((λj=>vs.toArray[j]?) ∘ λk=>n-1-k)=(List.range n).map λk=>vs[n-1-k]?.getD default:=by
  refine TPM.ap8 λk hk=>?_;have:=bE.mp hk;show vs.toArray[n-1-k]? = _;rw [List.getElem?_toArray,ag (by omega)]
  rfl
 rw [e]
 by_cases hi:i<n
 .rw [aN,dI hi,gD (by rw [bg];omega),bg,eM hn,i5 (by omega),ag (by omega)]
  show some (vs[n-1-i]?.getD default)=_;rw [ag (by omega)]
  rfl
 .rw [ba (by simp;omega),ba (by simp;omega)]
noncomputable def bk{α:Type}(l:Option Int)(xs:List α):List α:=match l with
 |none=>xs.reverse
 |some _=>xs.dropLast.reverse
theorem ase(vs:List Value)(l:Option Int)(hl:l=none\/l=some (-2)):slicePick vs.toArray l none (some (-1))=(bk l vs).toArray:=by
 unfold slicePick
 congr 1
 rw [aL]
 rcases hl with rfl|rfl
 .show (sliceRange ((vs.length:Int)-1) (-1) (-1)).filterMap _=_;rw [pick_from vs (aA _),fA];rfl
 .have e:(sliceBounds (some (-2)) none (some (-1)) vs.length).1=((vs.length-1:Nat):Int)-1:=by
   show max (-1) (min (if (-2:Int)<0 then -2+(vs.length:Int) else -2) ((vs.length:Int)-1))=_
   rw [aE (by decide)]
   omega
  rw [e];show (sliceRange (((vs.length-1:Nat):Int)-1) (-1) (-1)).filterMap _=_;rw [pick_from vs (by omega),<-dS]
  rfl
theorem aw7{α:Type}(l:Option Int)(xs:List α):(bk l xs).length<=xs.length:=by
 cases l with
 |none=>show xs.reverse.length<=_;rw [gT];exact aA _
 |some _=>show xs.dropLast.reverse.length<=_;rw [gT,List.length_dropLast];omega
theorem asf{vs:List V}{us:List Value}(r:Vals vs us)(l:Option Int):Vals (bk l vs) (bk l us):=by
 cases l with
 |none=>exact r.reverse
 |some _ =>
  show Vals vs.dropLast.reverse us.dropLast.reverse;rw [dS,dS,r.length];exact (r.take _).reverse
noncomputable def aw8(K:PySem.W.Frag)(te:TE)(tl:TO)(tk:TE):TE:=λZ H Q=>te Z H λx H1=>tl Z H1 λl H2=>tk Z H2 λk H3=>k=.int (-1)/\(l=none\/l=some (-2))/\∃a xs,x=.ref a/\SqL K H3 a xs/\∀p,H3 p=none->Q (.ref p) (upd H3 p (.lst (bk l xs)))
theorem anz{X:Cx}{e st:Expr}{lo:Option Expr}{te tk:TE}{tl:TO}{p2 pos:Pos}(he:PE X e te)(hl:PO X lo tl)(hk:PE X st tk):PE X (.Subscript e (.Slice lo none (some st) p2) pos) (aw8 X.K te tl tk):=by
 intro pins s Z H Q I h
 refine Subscript_ (thn (he pins s Z H _ I h) λv s1 ⟨x,H1,I1,r1,q1⟩=>?_);refine wpAny_Slice (thn (hl pins s1 Z H1 _ I1 q1) λvl s2 ⟨l,H2,I2,pl,q2⟩=>?_);rw [evalPart_none];refine ar ?_;rw [evalPart_some];refine thn (hk pins s2 Z H2 _ I2 q2) ?_
 rintro u s3 ⟨k,H3,I3,rk,ek,ol,a,xs,ea,hx,q⟩
 subst ek ea;obtain ⟨t,rfl⟩:=rk;cases r1
 have I4:Inv X pins Z H3 {s3 with heap:=s3.heap.push {cls:=.type "slice",data:=.fields #[vl,.none,.int (-1) t]} }:=I3.kept (t':=s3.toks) λb ob q=>ai _ q
 obtain ⟨its,r,ht,hz⟩:=I4.list hx;have hlen:=r.length;refine tail_any (T := "list") (ops:=[.ref a,.ref s3.heap.objs.size]) ht.isList.typeIs i8.lookup ?_ (by with_unfolding_all rfl)
 refine wpAny_getItem_list_slice (st:=some (-1)) ht.isList (Heap.IsSliceOf.new ..) pl .none (.int _ _) (by simp) ?_ (by rw [aL]<;>omega)
 rw [ase its l ol];refine ⟨.ref _,_,I4.laid (t':=s3.toks) (o:=.lst (bk l xs)) (λb ob q=>ai _ q) (aA _) ?_,rfl,q _ (I4.hok.fresh (aA _))⟩;exact ⟨aW (aw7 l xs) hz,_,0,asf r l,aJ _ rfl⟩
end L2
namespace MI
open L2
noncomputable def a4l(x:D)(l:Option Int)(k:D)(h:Hd):R D:=match ur x h,k with
 |some xs,.int i=>if i = -1/\(l=none\/l=some (-2)) then .ok (.ref h.length) (h++[.lst (bk l xs)]) else .no
 |_,_=>.no
theorem ash{K:PySem.W.Frag}{U:List Addr}{H:Hp}{vs:List V}{xs:List D}(r:Reps K U H vs xs)(l:Option Int):Reps K U H (bk l vs) (bk l xs):=by
 have rv:∀{vs:List V} {xs:List D},Reps K U H vs xs->Reps K U H vs.reverse xs.reverse:=λr=>by
  have:=aew r .nil
  rw [bL,bL] at this;exact this
 cases l with
 |none=>exact rv r
 |some _ =>
  show Reps K U H vs.dropLast.reverse xs.dropLast.reverse;rw [dS,dS,r.len];exact rv (r.take _)
abbrev sO:=Sd->Hd->R (Option Int)
noncomputable def a0y(f:SE)(l:sO)(g:SE):SE:=λτ h=>(f τ h).bind λd h1=>(l τ h1).bind λo h2=>(g τ h2).bind λk h3=>a4l d o k h3
theorem a9v{X:Cx}{E:XD}{e st:Expr}{lo:Option Expr}{f g:SE}{l:sO}{p2 pos:Pos}(he:ME X E e f)(hl:MO X E lo l)(hk:ME X E st g):ME X E (.Subscript e (.Slice lo none (some st) p2) pos) (a0y f l g):=by
 refine PE.weak (anz he hl hk) ?_
 rintro Z H Q ⟨U,τ,h,S,Rh,o⟩
 refine ⟨U,τ,h,S,Rh,dh o λd h1 U1 H1 v g1 r1 hr1 o1=>?_⟩;refine ⟨U1,τ,h1,S.mono g1,hr1,dh o1 λlo h2 U2 H2 lv g2 r2 hr2 o2=>?_⟩;refine ⟨U2,τ,h2,(S.mono g1).mono g2,hr2,dh o2 λk h3 U3 H3 u g3 r3 hr3 o3=>?_⟩;have r2:lv=lo:=r2;subst r2;unfold a4l at o3
 split at o3
 .rename_i xs i e1
  by_cases c:i = -1/\(lv=none\/lv=some (-2))
  .rw [aE c] at o3;obtain ⟨b,us,rfl,h5,h6⟩:=zu ((r1.mono g2).mono g3) hr3 e1;cases r3
   exact ⟨by rw [c.1],c.2,b,us,rfl,.inl h5,yf (ash h6 lv) hr3 o3⟩
  .rw [aS c] at o3;exact o3.elim
 .exact o3.elim
theorem aw9{xs:List D}{h:Hd}:a4l (.rol xs) none (.int (-1)) h=.ok (.ref h.length) (h++[.lst xs.reverse]):=by
 unfold a4l ur;simp only [iO,iP,true_or,db];rfl
theorem ao0{xs:List D}{h:Hd}{i:Nat}(e:h[i]? = some (.lst xs)):a4l (.ref i) (some (-2)) (.int (-1)) h=.ok (.ref h.length) (h++[.lst xs.dropLast.reverse]):=by
 unfold a4l ur;simp only [e,iO,iP,or_true,db];rfl
theorem asi{xs:List D}{h:Hd}{i:Nat}(e:h[i]? = some (.lst xs)):a4l (.ref i) none (.int (-1)) h=.ok (.ref h.length) (h++[.lst xs.reverse]):=by
 unfold a4l ur;simp only [e,iO,iP,true_or,db];rfl
end MI
namespace ZP
open PySem.Builtin PySem.Builtin.SmallTypes
end ZP
namespace ZP
open PySem.Builtin PySem.Builtin.SmallTypes L2
theorem a8g(a b c:Value):checkTypeCall "zip" ⟨[a,b,c],[]⟩=pure ():=by kernel_rfl
theorem a9w(a b c:Value):checkBuiltinCall "zip.__new__" ⟨[.type "zip",a,b,c],[]⟩=pure ():=by kernel_rfl
theorem a7t(a b c d:Value):argsOk "object.__init__" ⟨[a,b,c,d],[]⟩:=by
 unfold argsOk
 kernel_rfl
end ZP
namespace MI
open L2 ZP
noncomputable def ah4{α:Type}:List α->List α->List α->List (α×α×α)
 |x::xs,y::ys,z::zs=>(x,y,z)::ah4 xs ys zs
 |_,_,_=>[]
theorem afc{α:Type}:∀(xs ys zs:List α),(ah4 xs ys zs).length=min xs.length (min ys.length zs.length)
 |x::xs,y::ys,z::zs=>by rw [ah4,aH,afc xs ys zs,aH,aH,aH];omega
 |[],_,_=>by simp [ah4]
 |_::_,[],_=>by simp [ah4]
 |_::_,_::_,[]=>by simp [ah4]
noncomputable def asj(x y z:D)(h:Hd):R Itm:=match srcOf x h,srcOf y h,srcOf z h with
 |some (xs,c1),some (ys,c2),some (zs,c3)=>.ok ⟨(ah4 xs ys zs).map λp=>.tup [p.1,p.2.1,p.2.2],λh=>c1 h/\c2 h/\c3 h⟩ h
 |_,_,_=>.no
noncomputable def ah5(f g k:SE):SI:=λτ h=>(f τ h).bind λx h1=>(g τ h1).bind λy h2=>(k τ h2).bind λz h3=>asj x y z h3
end MI
namespace ZP
open PySem.Builtin PySem.Builtin.SmallTypes
abbrev IsZ(h:Heap)(z TI TO:Addr)(f0 f1:Value):Prop :=
 h.get? z=some {cls:=.type "zip",dict:=none,data:=.fields #[f0,f1,.bool false,.ref TI,.ref TO],slots := #[]}
section
variable{prog:Program}{w:World}{A:Around}{E:Value->Shared->Prop}{s:Shared}{z TI TO T i1 i2:Addr}{p q:List Addr}{n1 n2 k:Nat}{P1 P2:Nat->Value->Prop}{S1 S2:Nat->Heap->Prop}
theorem alive{a:Addr}{Q:Option Obj->Shared->Prop}(h:Q (s.heap.get? a) s):wpAny (model prog w) A (loadIfAlive a) Q E s:=by
 intro Γ p hp
 rw [loadIfAlive,Sem.wp_loadIfAlive];exact ar h Γ p hp
end
end ZP
namespace ZP
open PySem.Builtin PySem.Builtin.SmallTypes L2
end ZP
namespace MI
open L2 ZP PySem.Builtin PySem.Builtin.SmallTypes
theorem afd{d:D}{h h':Hd}{xs:List D}{ck:Hd->Prop}(e:srcOf d h=some (xs,ck))(m:Hd)(c:ck h'):ck (h'++m):=by
 cases d with
 |tup _=>cases e;trivial
 |rol _=>cases e;trivial
 |str _=>cases e;trivial
 |ref i =>
  unfold srcOf at e;dsimp only at e
  split at e
  .cases e
   rw [aP (am.mp c).1];exact c
  .cases e
 |_=>cases e
noncomputable def aka(x y:D)(h:Hd):R D:=match srcOf x h,srcOf y h with
 |some (xs,_),some (ys,_)=>if (xs.zip ys).length<=LINE then .ok (.ref h.length) (h++[.lst ((xs.zip ys).map λp=>.tup [p.1,p.2])]) else .no
 |_,_=>.no
end MI
namespace K09
open L2 MI
def a6e(ik:SF)(dq:SF):SS :=
 (jg (n6 2 (sA (kj false 2 ik) (aj (sV 0) (aj (sV 1) bz))))
 (jg (aek (sV 2) (aba 2 (xj (kN 3) (xj (kN 4) ack))))
 (jg (sIf (sT (s2 (gIn true) (sA qu (aj (sV 1) bz)) (s2 gIx (sV 3) (sC (.int 0)))))
 (o9 (sC .non))
 sNx)
 (o9 (sA (kj false 4 dq) (aj (sV 0) (aj (sV 2) (aj (sV 1) (aj (sA ww (aj (sC (.int 0)) (aj (sA qu (aj (sV 1) bz)) bz))) bz)))))))))
def a01(dq:SF)(jj:SF)(c7:SF):SE :=
 (s2 (gIn false) (sV 3) (s2 gIx (sV 0) (sV 2)))
def a2r(dq:SF)(jj:SF)(c7:SF):SS :=
 (jg (aek (sV 1) (aba 2 (xj (kN 4) (xj (kN 5) ack))))
 (jg (aek (sV 3) (aba 2 (xj (kN 6) (xj (kN 7) ack))))
 (jg (sIf (sT (s2 hEq (s2 gIx (sV 0) (sC (.int 0))) (sC (.str "one"))))
 (o9 (sA ww (aj (sC (.str "one")) (aj (s2 gIx (sV 2) (sV 6)) bz))))
 sNx)
 (jg (sIf (sT (s2 hEq (s2 gIx (sV 0) (sC (.int 0))) (sC (.str "either"))))
 (jg (n6 8 (sZ (m5 (sIt (sV 5)) (tN 2) (a01 dq jj c7) [6,7])))
 (jg (n6 9 (sML a5j (sV 8) (aj (sC (.bl true)) bz)))
 (o9 (sA ww (aj (sC (.str "either")) (aj (sV 9) (aj (sA (kj false 4 dq) (aj (s2 gIx (s2 gIx (sV 0) (sC (.int 1))) (sV 9)) (aj (s2 gIx (sV 5) (sV 9)) (aj (sV 2) (aj (sV 3) bz))))) bz)))))))
 sNx)
 (jg (sIf (sT (s2 hEq (s2 gIx (sV 0) (sC (.int 0))) (sC (.str "row"))))
 (o9 (sA ww (aj (sC (.str "row")) (aj (sA (kj false 4 c7) (aj (s2 gIx (sV 0) (sC (.int 1))) (aj (sV 5) (aj (sV 2) (aj (sV 3) bz))))) bz))))
 sNx)
 (jg (aek (ahi (sT (s2 hEq (s2 gIx (sV 0) (sC (.int 0))) (sC (.str "many")))) (sA ww (aj (sC (.int 0)) (aj (s2 a8h (sV 7) (sV 6)) bz))) (sA ww (aj (s2 gIx (sV 0) (sC (.int 2))) (aj (s2 gIx (sV 0) (sC (.int 3))) bz)))) (aba 2 (xj (kN 10) (xj (kN 11) ack))))
 (o9 (sA ww (aj (s2 gIx (sV 0) (sC (.int 0))) (aj (sA (kj false 5 jj) (aj (s2 gIx (sV 0) (sC (.int 1))) (aj (s2 gIx (sV 5) (sC (.int 0))) (aj (sV 2) (aj (sV 3) (aj (sA ww (aj (sV 10) (aj (sV 11) bz))) bz)))))) bz))))))))))
def qp(c7:SF):SS :=
 (jg (n6 8 (sA (kj false 4 c7) (aj (sZ (s2 a1h (sZ (sA uz (aj (sV 0) bz))) (sV 7))) (aj (sZ (s2 a1h (sZ (sA uz (aj (sV 1) bz))) (sV 7))) (aj (sV 2) (aj (sV 3) bz))))))
 (sIf (sT (s2 aep (sV 8) (sC .non)))
 (o9 (sV 8))
 sNx))
def yt(c7:SF):SS :=
 (jg (aek (sV 4) (aba 2 (xj (kN 5) (xj (kN 6) ack))))
 (jg (a8o (sRg abb (aj (sV 5) (aj (s2 jo (sV 6) (sC (.int 1))) bz))) (kN 7) (qp c7))
 atj))
def wu(n8:SF)(dq:SF):SE :=
 (sV 0)
def jh(n8:SF)(dq:SF):SE :=
 (sA (kj false 4 dq) (aj (sV 0) (aj (sV 1) (aj (sV 3) (aj (sV 2) bz)))))
def vz(n8:SF)(dq:SF):SS :=
 (jg (aek (sV 3) (aba 2 (xj (kN 4) (xj (kN 5) ack))))
 (jg (n6 6 (sA (kj false 3 n8) (aj (sZ (m5 (sIt (sV 1)) (tN 2) (wu n8 dq) [])) (aj (sV 4) (aj (sV 5) bz)))))
 (jg (sIf (sT (s2 gIs (sV 6) (sC .non)))
 (o9 (sC .non))
 sNx)
 (jg (n6 7 (sZ (s2 aka (sV 6) (sZ (a2a (sV 6) (oS (sC (.int 1))) oN)))))
 (o9 (sA zj (aj (sZ (m5 (ah5 (sV 0) (sV 1) (sV 7)) (tN 3) (jh n8 dq) [2])) bz)))))))
def a5k(dg:SF):SS :=
 (a8c (sML alv (sV 3) (aj (sA (kj false 2 dg) (aj (sV 4) (aj (s2 gIx (sV 3) (s1 a5t (sC (.int 1)))) bz))) bz)))
def a8w(dg:SF):SE :=
 (sV 0)
def a2s(dg:SF):ST :=
 (sT (s2 (gIn false) (s2 gIx (sV 2) (s1 a5t (sC (.int 1)))) (s2 gIx (sV 1) (sV 0))))
def a2t(dg:SF):SS :=
 (jg (n6 7 (sZ (a8p (sIt (sV 6)) t1 (a2s dg) (a8w dg) [4,5])))
 (a8c (sML alv (sV 5) (aj (s2 gIx (sV 7) (sC (.int 0))) bz))))
def a9x(dg:SF):SS :=
 (jg (n6 3 (sA uz (aj (sZ (sA uz (aj (sV 1) bz))) bz)))
 (jg (a8o (sIt (sV 0)) (kN 4) (a5k dg))
 (jg (sIf (sT (s2 (gIn true) (sV 2) (s2 gIx (sV 3) (s1 a5t (sC (.int 1))))))
 (o9 (sC .non))
 sNx)
 (jg (n6 5 (sA uz (aj (sV 2) bz)))
 (jg (a8o (ad1 (sZ (a0y (sV 0) oN (s1 a5t (sC (.int 1))))) (sZ (a0y (sV 3) (oS (s1 a5t (sC (.int 2)))) (s1 a5t (sC (.int 1)))))) (aba 2 (xj (kN 4) (xj (kN 6) ack))) (a2t dg))
 (o9 (a0y (sV 5) oN (s1 a5t (sC (.int 1))))))))))
def a5z(j9:SF):SE :=
 (sA (kj false 1 j9) (aj (sV 0) bz))
def a4m(j9:SF):SS :=
 (jg (sIf (sT (s2 hEq (s2 gIx (sV 0) (sC (.int 0))) (sC (.str "one"))))
 (o9 (s2 gIx (sV 0) (sC (.int 1))))
 sNx)
 (jg (sIf (sT (s2 hEq (s2 gIx (sV 0) (sC (.int 0))) (sC (.str "either"))))
 (o9 (sA (kj false 1 j9) (aj (s2 gIx (sV 0) (sC (.int 2))) bz)))
 sNx)
 (o9 (sMS a8e (sC (.str "")) (aj (sZ (m5 (sIt (s2 gIx (sV 0) (sC (.int 1)))) t1 (a5z j9) [])) bz)))))
def a1o(j8:SF)(j4:SF)(a02:SF)(j9:SF):SS :=
 (jg (n6 2 (sA (kj false 2 a02) (aj (sV 0) (aj (sV 1) bz))))
 (jg (sIf (sT (s2 (gIn true) (sA qu (aj (sV 1) bz)) (s2 gIx (s2 gIx (sA (kj false 2 j8) (aj (sV 0) (aj (sV 1) bz))) (sC (.int 0))) (sC (.int 0)))))
 (o9 (s2 gIs (sV 2) (sC .non)))
 sNx)
 (jg (n6 3 (sA (kj false 2 j4) (aj (sV 0) (aj (sV 2) bz))))
 (jg (sIf (sOr (sT (s2 gIs (sV 3) (sC .non))) (sT (s2 hNe (sV 3) (sV 1))))
 atj
 sNx)
 (jg (n6 4 (sA (kj false 1 j9) (aj (sV 2) bz)))
 (o9 (a3o (sA sr (aj (sV 4) (aj (sC (.ty "str")) bz))) (s2 hEq (sV 4) (sV 1)))))))))
def afe(di:SF)(my:SF)(jm:SF)(jb:SF)(fu:SF)(ji:SF)(iy:SF)(az:SF)(jz:SF)(j9:SF):SS :=
 (sIf (a8b (aas (sA (kj false 2 jm) (aj (sV 4) (aj (sV 10) bz)))))
 atj
 sNx)
def a9y(di:SF)(my:SF)(jm:SF)(jb:SF)(fu:SF)(ji:SF)(iy:SF)(az:SF)(jz:SF)(j9:SF):SS :=
 (jg (n6 4 (sA (kj false 4 fu) (aj (sV 1) (aj (sA uz (aj (s2 gIx (sZ (sA uz (aj (sC (.int 7)) (aj (sC (.int 23)) bz)))) (sA (kj false 2 az) (aj (sV 1) (aj (sC (.int 2)) bz)))) bz)) (aj (sC (.int 5)) (aj (sV 2) bz))))))
 (jg (n6 5 (sA (kj false 2 di) (aj (sV 1) (aj (sV 4) bz))))
 (jg (n6 6 (sA (kj false 1 jb) (aj (sV 5) bz)))
 (jg (n6 7 (sA (kj false 2 az) (aj (sV 1) (aj (s2 jo (sA qu (aj (sV 6) bz)) (sC (.int 1))) bz))))
 (jg (n6 8 (s2 gIx (sZ (sA uz (aj (sC (.str "")) (aj (s2 gIx (sV 2) (sA (kj false 2 az) (aj (sV 1) (aj (sA qu (aj (sV 2) bz)) bz)))) bz)))) (sA (kj false 2 az) (aj (sV 1) (aj (sC (.int 2)) bz)))))
 (jg (n6 9 (s2 jo (s2 jo (a2a (sV 6) oN (oS (sV 7))) (sV 8)) (a2a (sV 6) (oS (s2 jo (sV 7) (sA (kj false 2 az) (aj (sV 1) (aj (sC (.int 2)) bz))))) oN)))
 (jg (sIf (a8m (sT (s2 gLt (sA qu (aj (sV 6) bz)) (sC (.int 241)))) (sT (s2 hNe (sA (kj false 1 j9) (aj (sV 5) bz)) (sV 6))))
 atj
 sNx)
 (a8o (sIt (sA ww (aj (a2a (sV 6) oN (oS (sC (.int 16)))) (aj (a2a (sV 9) oN (oS (sC (.int 16)))) (aj (sA (kj false 3 jz) (aj (sV 1) (aj (sV 2) (aj (sC (.int 6)) bz)))) (aj (sC (.str "")) (aj (a2a (sV 6) oN (oS (sC (.int 16)))) bz))))))) (kN 10) (afe di my jm jb fu ji iy az jz j9)))))))))
def afg(di:SF)(my:SF)(jm:SF)(jb:SF)(fu:SF)(ji:SF)(iy:SF)(az:SF)(jz:SF)(j9:SF):SE :=
 (s2 gIx (sV 2) (sA (kj false 2 az) (aj (sV 1) (aj (sA qu (aj (sV 2) bz)) bz))))
def ao1(di:SF)(my:SF)(jm:SF)(jb:SF)(fu:SF)(ji:SF)(iy:SF)(az:SF)(jz:SF)(j9:SF):SS :=
 (jg (n6 1 (sA (kj true 1 my) (aj (sV 0) bz)))
 (jg (n6 2 (sA (kj false 3 iy) (aj (sV 1) (aj (sA (kj false 0 ji) bz) (aj (s2 gIx (sZ (sA uz (aj (sC (.int 3)) (aj (sC (.int 3)) (aj (sC (.int 3)) (aj (sC (.int 6)) bz)))))) (sA (kj false 2 az) (aj (sV 1) (aj (sC (.int 4)) bz)))) bz)))))
 (jg (a8o (sRg v4 (aj (sC (.int 2)) bz)) (kN 3) (a9y di my jm jb fu ji iy az jz j9))
 (jg (n6 11 (sMS a8e (sC (.str "")) (aj (sZ (m5 (sRg v4 (aj (sC (.int 16)) bz)) t1 (afg di my jm jb fu ji iy az jz j9) [1,2])) bz)))
 (jg (n6 12 (sA ww (aj (sC (.str "one")) (aj (sV 2) bz))))
 (o9 (a3o (sA (kj false 2 jm) (aj (sA ww (aj (sC (.str "many")) (aj (sV 12) bz))) (aj (sV 11) bz))) (sA (kj false 2 jm) (aj (sA ww (aj (sC (.str "many")) (aj (sA ww (aj (sC (.str "times")) (aj (sV 12) (aj (sC (.int 0)) (aj (sC (.int 1)) bz))))) bz))) (aj (sV 11) bz))))))))))
end K09
namespace ZP
open PySem.Builtin PySem.Builtin.SmallTypes L2
section
variable{M:Model}{A:Around}{E:Value->Shared->Prop}{s:Shared}
theorem a4n{α β:Type}{f:α->β->Sem (ForInStep β)}{Q:β->Shared->Prop}(P:List α->β->Shared->Prop)(nil:∀b s,P [] b s->Q b s)
  (cons:∀a l b s,P (a::l) b s->wpAny M A (f a b) (λr s'=>match r with|.yield b'=>P l b' s'|.done b'=>Q b' s') E s) :
  ∀(l:List α) b s,P l b s->wpAny M A (forIn l b f) Q E s
 |[],b,s,h=>by rw [iR];exact ar (nil b s h)
 |a::l,b,s,h=>by
  rw [List.forIn_cons];refine af (bF (cons a l b s h) (λr s' q=>?_) λ_ _ r=>r)
  cases r with
  |done b'=>exact ar q
  |yield b'=>exact a4n P nil cons l b' s' q
end
structure Src where
 a:Addr
 t:Tok
 k:Srk
def Drk(H:Hp)(i:Nat):List Srk->Option (List V)->Prop
 |[],o=>o=some []
 |k::L,o=>∃xs,its H k=some xs/\((∃x o',xs[i]? = some x/\Drk H i L o'/\o=o'.map (x::·))\/(i=xs.length/\o=none))
def Drw(H:Hp)(i:Nat)(L:List Src)(o:Option (List V)):Prop:=Drk H i (L.map (·.k)) o
def owns(i:Nat)(h:Heap)(L:List Src):Prop:=∀r∈L,own r.a r.t r.k i h
section
variable{X:Cx}{A:Around}{s:Shared}{H:Hp}{pins:List (Addr×Obj)}{Z:St}
theorem azc{Q:Value->Shared->Prop}{E:Value->Shared->Prop}{r:Src}{i:Nat}{xs:List V}(hA:A.handled=none)(I:Inv X pins Z H s)(hn:H r.a=none)(st:own r.a r.t r.k i s.heap)(e:its H r.k=some xs)
  (q:∀x,xs[i]? = some x->∀u h' tk,RelV x u->own r.a r.t r.k (i+1) h'->Heap.SameBut r.a s.heap h'->Q u {s with heap:=h',toks:=tk})
  (hi:i<=xs.length) (qe:i=xs.length->∀h' e,Heap.ExtBut r.a s.heap h'->(∃o,h'.get? e=some o/\o.cls=.type "StopIteration")->E (.ref e) {s with heap:=h' }) :
  wpAny (model X.prog X.w) A (nextOf (.ref r.a)) Q E s:=by
 obtain ⟨cs,P1,S1,D1,a1,b1,c1,d1⟩:=arb I (t:=r.t) e hn
 rcases Nat.lt_or_eq_of_le hi with h|h
 .refine (D1 A hA).item i _ _ _ h (a1 i st) λu h' tk pu s' sb=>?_;obtain ⟨x,g,rv⟩:=d1 i u pu;exact q x g u h' tk rv (b1 _ _ s') sb
 .subst h;exact (D1 A hA).done _ _ _ (a1 _ st) λh' e x so=>qe rfl h' e x so
structure Pg (X:Cx) (pins:List (Addr×Obj)) (Z:St) (H:Hp) (s:Shared) (i:Nat) (ch:List Addr) (L1 L2:List Src) (row:List V) (us:List Value) (h':Heap) (tk:Nat):Prop where
 inv:Inv X pins Z H {s with heap:=h',toks:=tk}
 o1:owns (i+1) h' L1
 o2:owns i h' L2
 vs:Vals row us
 ln:us.length=L1.length
 sz:h'.objs.size=s.heap.objs.size
 fr:∀c o,c∉ch->s.heap.get? c=some o->h'.get? c=some o
theorem Pg.turn{h' h2:Heap}{tk tk2:Nat}{c:Addr}{ch:List Addr}{i:Nat}{L1 L2:List Src}{row:List V}{us:List Value}(p:Pg X pins Z H s i ch L1 L2 row us h' tk)(hf:∀b∈ch,FpOk X pins H b)(hc:c∈ch)(sb:Heap.SameBut c h' h2)(n1:∀r∈L1,r.a≠c)(n2:∀r∈L2,r.a≠c):Pg X pins Z H s i ch L1 L2 row us h2 tk2 where
 inv:=a9i (s:={s with heap:=h',toks:=tk}) (t':=tk2) p.inv (ch:=ch) hf λb o nb e=>sb.extBut b o (λz=>nb (z ▸ hc)) e
 o1:=λr hr=>a1g (p.o1 r hr) λob e=>sb.extBut _ _ (n1 r hr) e
 o2:=λr hr=>a1g (p.o2 r hr) λob e=>sb.extBut _ _ (n2 r hr) e
 vs:=p.vs
 ln:=p.ln
 sz:=sb.1.trans p.sz
 fr:=λb o nb e=>sb.extBut b o (λz=>nb (z ▸ hc)) (p.fr b o nb e)
theorem Pg.draw{Q:Value->Shared->Prop}{E:Value->Shared->Prop}{h':Heap}{tk:Nat}{ch:List Addr}{i:Nat}{r:Src}{L1 L2:List Src}{row:List V}{us:List Value}{xs:List V}(hA:A.handled=none)(p:Pg X pins Z H s i ch L1 (r::L2) row us h' tk)(hf:∀b∈ch,FpOk X pins H b)(hc:r.a∈ch)(n1:∀r'∈L1,r'.a≠r.a)(n2:∀r'∈L2,r'.a≠r.a)
  (e:its H r.k=some xs) (hi:i<=xs.length) (q:∀x u h2 tk2,xs[i]? = some x->Pg X pins Z H s i ch (L1++[r]) L2 (row++[x]) (us++[u]) h2 tk2->Heap.SameBut r.a h' h2->Q u {s with heap:=h2,toks:=tk2})
  (qe:i=xs.length->∀h2 e,Heap.ExtBut r.a h' h2->(∃o,h2.get? e=some o/\o.cls=.type "StopIteration")->E (.ref e) {s with heap:=h2,toks:=tk}):wpAny (model X.prog X.w) A (nextOf (.ref r.a)) Q E {s with heap:=h',toks:=tk}:=by
 refine azc hA p.inv (hf _ hc).1 (p.o2 r (by simp)) e (λx g u h2 tk2 rv o sb=>q x u h2 tk2 g ?_ sb) hi qe
 have p':Pg X pins Z H s i ch L1 L2 row us h2 tk2:=Pg.turn (tk:=tk) ⟨p.inv,p.o1,λr' hr=>p.o2 r' (ay _ hr),p.vs,p.ln,p.sz,p.fr⟩ hf hc sb n1 n2;refine ⟨p'.inv,λr' hr=>?_,p'.o2,p'.vs.append (.cons rv .nil),by simp [p'.ln],p'.sz,p'.fr⟩
 rcases aZ.mp hr with m|m
 .exact p'.o1 r' m
 .rw [aD.mp m];exact o
end
abbrev IsT(h:Heap)(T:Addr)(vs:List Value):Prop:=h.get? T=some {cls:=.type "tuple",data:=.seq vs.toArray}
section
variable{X:Cx}{A:Around}{E:Value->Shared->Prop}{s:Shared}{H:Hp}{pins:List (Addr×Obj)}{Z:St}{z TI TO T:Addr}{ch:List Addr}{i:Nat}{o:Option (List V)}
theorem apart{L1 L2:List Src}{r:Src}(nd:((L1++r::L2).map (·.a)).Nodup):(∀r'∈L1,r'.a≠r.a)/\∀r'∈L2,r'.a≠r.a:=by
 simp only [cI,aT,bQ,eA,b6] at nd;exact ⟨λr' m e=>nd.2.2 r'.a ⟨r',m,rfl⟩ r.a (by simp) e,λr' m e=>nd.2.1.1 ⟨r',m,e⟩⟩
theorem b1s{Q:Fin->Shared->Prop}{fb:Bool}{ob:Obj}{r:Src}{L:List Src}(hA:A.handled=none)(hz:IsZ s.heap z TI TO (rawInt (T:Nat)) (.bool fb))(hT:s.heap.get? T=some ob)(hi:IsT s.heap TI ((r::L).map λr=>.ref r.a))
  (I:Inv X pins Z H s) (hf:∀b∈ch,FpOk X pins H b) (mz:z∈ch) (mL:∀r'∈r::L,r'.a∈ch) (nz:∀r'∈r::L,r'.a≠z) (nd:((r::L).map (·.a)).Nodup) (ow:owns i s.heap (r::L)) (hl:(r::L).length<=sizeLine) (d:Drw H i (r::L) o)
  (qi:∀row us h' tk,o=some row->Pg X pins Z H s i ch (r::L) [] row us h' tk->IsZ h' z TI TO (rawInt (T:Nat)) (.bool true)->Q (.done (.ret (.ref h'.objs.size))) {s with heap:=h'.push {cls:=.type "tuple",data:=.seq us.toArray},toks:=tk})
  (qe:o=none->∀h' tk e,(∀c ob,c∉ch->s.heap.get? c=some ob->h'.get? c=some ob)->(∃o,h'.get? e=some o/\o.cls=.type "StopIteration")->E (.ref e) {s with heap:=h',toks:=tk}) :
  wpAny (model X.prog X.w) A (Builtin.«zip.__next__» ⟨[.ref z],[]⟩) Q E s:=by
 change wpAny (model X.prog X.w) A (field (.ref z) 2>>=_) _ _ _
 apply af;apply cR hz rfl (x:=.bool false) rfl
 change wpAny (model X.prog X.w) A (field (.ref z) 3>>=_) _ _ _
 apply af;apply cR hz rfl (x:=.ref TI) rfl
 apply af;apply dE hi rfl
 change wpAny (model X.prog X.w) A (ownedTupleIsFree (.ref z)>>=_) _ _ _
 apply af
 rw [ownedTupleIsFree]
 apply af;apply cR hz rfl (x:=rawInt (T:Nat)) rfl
 show wpAny (model X.prog X.w) A (loadIfAlive (T:Int).toNat>>=_) _ _ _
 apply af
 rw [cv]
 apply alive
 rw [hT];dsimp only [Option.isNone];rw [aS aX]
 apply af;apply cR hz rfl (x:=.bool fb) rfl
 obtain ⟨h1,z1,b1,st⟩:∃h1,IsZ h1 z TI TO (rawInt (T:Nat)) (.bool true)/\Heap.SameBut z s.heap h1/\∀{Q':Bool->Shared->Prop},Q' false {s with heap:=h1}->wpAny (model X.prog X.w) A (if (Value.bool fb != Value.bool true)=true then (setField (.ref z) 1 (.bool true)>>=λ_=>pure false) else pure false) Q' E s:=by
  cases fb with
  |true=>exact ⟨s.heap,hz,eR _ _,λh=>by rw [aS (by decide)];exact ar h⟩
  |false=>exact ⟨_,bG _ hz rfl,bP ..,λh=>by rw [aE (by decide)];exact af (wpAny_setField hz rfl (by show 1<5;decide) (ar h))⟩
 refine st ?_;rw [aS aX];rw [<-Array.forIn_toList]
 apply af
 refine a4n (λl b s'=>∃L1 L2 row h' tk o2,r::L=L1++L2/\l=L2.map (λr=>.ref r.a)/\b.1=none/\Pg X pins Z H s i ch L1 L2 row b.2.toList h' tk/\s'={s with heap:=h',toks:=tk}/\IsZ h' z TI TO (rawInt (T:Nat)) (.bool true)/\Drw H i L2 o2/\o=o2.map (row++·)) (λb s' p=>?_) (λa l b s' p=>?_) _ _ _ ?_
 .obtain ⟨L1,L2,row,h',tk,o2,eL,el,e1,p,rfl,zz,dd,eo⟩:=p;obtain rfl:L2=[]:=by simpa using el.symm
  rw [bL] at eL;subst eL;rw [e1];obtain rfl:o2=some []:=dd
  apply af;refine hW ?_ (by rw [p.ln];exact hl)
  exact ar (qi row _ h' tk (by simpa using eo) p zz)
 .obtain ⟨L1,L2,row,h',tk,o2,eL,el,e1,p,rfl,zz,dd,eo⟩:=p
  cases L2 with
  |nil=>cases el
  |cons r2 L2 =>
   cases el
   obtain ⟨xs,e2,dd⟩:=dd;rw [eL] at nd mL nz;obtain ⟨n1,n2⟩:=apart nd;have m2:r2∈L1++r2::L2:=by simp
   apply af;apply bR
   change wpAny (model X.prog X.w) A (nextOf (.ref r2.a)>>=_) _ _ _
   apply af
   have le:i<=xs.length:=by
    rcases dd with ⟨x,o',g,_⟩|⟨g,_⟩
    .exact dO (am.mp g).1
    .exact iJ g
   refine p.draw hA hf (mL r2 m2) n1 n2 e2 le (λx u h2 tk2 g p2 sb=>?_) λg h2 e xb so=>?_
   .apply ar
    refine ar ?_
    rcases dd with ⟨x',o',g',d',rfl⟩|⟨g',_⟩
    .rw [g] at g';cases g'
     exact ⟨L1++[r2],L2,row++[x],h2,tk2,o',by simp [eL],rfl,rfl,by simpa using p2,rfl,sb.extBut _ _ (nz r2 m2).symm zz,d',by rw [eo];cases o'<;>simp⟩
    .have:=(am.mp g).1;omega
   .refine qe ?_ h2 tk e (λc ob nc e=>xb c ob (λz=>nc (z ▸ mL r2 m2)) (p.fr c ob nc e)) so
    rcases dd with ⟨x',o',g',_⟩|⟨_,rfl⟩
    .have:=(am.mp g').1;omega
    .rw [eo];rfl
 .have p0:Pg X pins Z H s i ch [] (r::L) [] [] s.heap s.toks:=⟨I,(λ_ h=>by cases h),ow,.nil,rfl,rfl,λ_ _ _ e=>e⟩
  exact ⟨[],r::L,[],h1,s.toks,o,rfl,by simp,rfl,p0.turn hf mz b1 (λ_ h=>by cases h) nz,rfl,z1,d,by cases o<;>simp⟩
end
section
variable{X:Cx}{A:Around}{E:Value->Shared->Prop}{s:Shared}{H:Hp}{pins:List (Addr×Obj)}{Z:St}{z TI TO T:Addr}{ch:List Addr}{i:Nat}{o:Option (List V)}
theorem b1t{us:List Value}{x:Value}{j:Nat}{Q:Unit->Shared->Prop}(hT:IsT s.heap T us)(hl:us.length<=sizeLine)
  (h:∀h',IsT h' T (us.set j x)->Heap.SameBut T s.heap h'->Q () {s with heap:=h' }) :
  wpAny (model X.prog X.w) A (updateSeq T (·.setIfInBounds j x)) Q E s:=by
 refine cU hT rfl (h _ ?_ (bP ..)) (by simpa using hl) (by simp;omega)
 rw [IsT,bG _ hT rfl];simp [Obj.mapSeq]
theorem b1u{Q:Fin->Shared->Prop}{r:Src}{L:List Src}{ws0:List Value}(hA:A.handled=none)(hz:IsZip s.heap z TI TO .none)(hi:IsT s.heap TI ((r::L).map λr=>.ref r.a))(ho:IsT s.heap TO ws0)(lw:ws0.length=(r::L).length)
  (I:Inv X pins Z H s) (hf:∀b∈ch,FpOk X pins H b) (mz:z∈ch) (mo:TO∈ch) (oz:TO≠z) (mL:∀r'∈r::L,r'.a∈ch) (nz:∀r'∈r::L,r'.a≠z) (no:∀r'∈r::L,r'.a≠TO) (nd:((r::L).map (·.a)).Nodup) (ow:owns i s.heap (r::L)) (hl:(r::L).length<=sizeLine) (d:Drw H i (r::L) o)
  (qi:∀row us h' h2 tk,o=some row->Pg X pins Z H s i ch (r::L) [] row us h' tk->IsT h' TO us->IsZip h2 z TI TO (rawInt h'.objs.size)->(∀c ob,c≠z->(h'.push {cls:=.type "tuple",data:=.seq us.toArray}).get? c=some ob->h2.get? c=some ob)->Q (.done (.ret (.ref h'.objs.size))) {s with heap:=h2,toks:=tk})
  (qe:o=none->∀h' tk e,(∀c ob,c∉ch->s.heap.get? c=some ob->h'.get? c=some ob)->(∃o,h'.get? e=some o/\o.cls=.type "StopIteration")->E (.ref e) {s with heap:=h',toks:=tk}) :
  wpAny (model X.prog X.w) A (Builtin.«zip.__next__» ⟨[.ref z],[]⟩) Q E s:=by
 change wpAny (model X.prog X.w) A (field (.ref z) 2>>=_) _ _ _
 apply af;apply cR hz rfl (x:=.bool false) rfl
 change wpAny (model X.prog X.w) A (field (.ref z) 3>>=_) _ _ _
 apply af;apply cR hz rfl (x:=.ref TI) rfl
 apply af;apply dE hi rfl
 change wpAny (model X.prog X.w) A (ownedTupleIsFree (.ref z)>>=_) _ _ _
 apply af
 rw [ownedTupleIsFree]
 apply af;apply cR hz rfl (x:=.none) rfl
 apply ar
 rw [aE rfl]
 apply af;apply eU
 apply af;apply cR hz rfl (x:=.ref TO) rfl
 apply af;apply fO hz (dF _)
 intro h1 z1 b1
 apply af
 refine a4n (λl b s'=>∃L1 L2 row us ws h' tk o2,r::L=L1++L2/\l=(L2.map (λr=>Value.ref r.a)).zipIdx L1.length/\b.1=none/\Pg X pins Z H s i ch L1 L2 row us h' tk/\s'={s with heap:=h',toks:=tk}/\IsZip h' z TI TO .ellipsis/\IsT h' TO (us++ws)/\ws.length=L2.length/\Drw H i L2 o2/\o=o2.map (row++·)) (λb s' p=>?_) (λa l b s' p=>?_) _ _ _ ?_
 .obtain ⟨L1,L2,row,us,ws,h',tk,o2,eL,el,e1,p,rfl,zz,tt,lw,dd,eo⟩:=p;obtain rfl:L2=[]:=by
   cases L2 with
   |nil=>rfl
   |cons _ _=>simp at el
  obtain rfl:ws=[]:=cV.mp lw
  rw [bL] at eL tt;subst eL;dsimp only;rw [e1];obtain rfl:o2=some []:=dd
  apply af;apply dE tt rfl
  apply af;refine hW ?_ (by simpa using (by rw [p.ln];exact hl:us.length<=sizeLine))
  change wpAny (model X.prog X.w) A (ownedTupleHandOut (.ref z) (.ref h'.objs.size)>>=_) _ _ _
  apply af
  rw [ownedTupleHandOut];have z6:IsZip (h'.push {cls:=.type "tuple",data:=.seq us.toArray}) z TI TO .ellipsis:=ai _ zz
  apply af;apply fO z6 (dF _)
  intro h7 z7 b7
  apply fO z7 (by show 1<5;decide)
  intro h8 z8 b8
  apply ar
  exact qi row us h' h8 tk (by simpa using eo) p tt z8 λc ob nc e=>b8.extBut _ _ nc (b7.extBut _ _ nc e)
 .obtain ⟨L1,L2,row,us,ws,h',tk,o2,eL,el,e1,p,rfl,zz,tt,lw,dd,eo⟩:=p
  cases L2 with
  |nil=>cases el
  |cons r2 L2 =>
   cases ws with
   |nil=>cases lw
   |cons w0 ws =>
    cases el
    obtain ⟨xs,e2,dd⟩:=dd;rw [eL] at nd mL nz no;obtain ⟨n1,n2⟩:=apart nd;have m2:r2∈L1++r2::L2:=by simp
    have ly:(us++w0::ws).length<=sizeLine:=by
     have:(r::L).length=(L1++r2::L2).length:=by rw [eL]
     simp only [av,aH] at this lw hl ⊢;have:=p.ln;omega
    apply af;apply wpAny_onRaise
    change wpAny (model X.prog X.w) A (nextOf (.ref r2.a)>>=_) _ _ _
    apply af
    have le:i<=xs.length:=by
     rcases dd with ⟨x,o',g,_⟩|⟨g,_⟩
     .exact dO (am.mp g).1
     .exact iJ g
    refine p.draw hA hf (mL r2 m2) n1 n2 e2 le (λx u h2 tk2 g p2 sb=>?_) λg h2 e xb so=>?_
    .apply ar
     have t2:IsT h2 TO (us++w0::ws):=sb.extBut _ _ (no r2 m2).symm tt
     apply af;refine dE (s:={s with heap:=h2,toks:=tk2}) t2 rfl ?_
     apply af;refine b1t (s:={s with heap:=h2,toks:=tk2}) t2 ly λh3 t3 b3=>?_
     apply af;apply wpAny_letGo
     refine ar ?_
     rcases dd with ⟨x',o',g',d',rfl⟩|⟨g',_⟩
     .rw [g] at g';cases g'
      refine ⟨L1++[r2],L2,row++[x],us++[u],ws,h3,tk2,o',by simp [eL],by simp,rfl,p2.turn hf mo b3 (λr' m=>no r' (by rcases aZ.mp m with h|h<;>simp_all)) (λr' m=>no r' (by simp [m])),rfl,b3.extBut _ _ oz.symm (sb.extBut _ _ (nz r2 m2).symm zz),?_,by simpa using lw,d',by rw [eo];cases o'<;>simp⟩
      rw [<-p.ln] at t3;simpa using t3
     .have:=(am.mp g).1;omega
    .have z2:IsZip h2 z TI TO .ellipsis:=xb _ _ (nz r2 m2).symm zz;obtain ⟨oe,f1,f2⟩:=so;have ne:e≠z:=λy=>by subst y;rw [z2] at f1;cases f1;simp at f2
     refine fO (s:={s with heap:=h2,toks:=tk}) z2 (dF _) λh3 _ b3=>?_
     refine qe ?_ h3 tk e (λc ob nc e=>b3.extBut _ _ (λy=>nc (y ▸ mz)) (xb c ob (λz=>nc (z ▸ mL r2 m2)) (p.fr c ob nc e))) ⟨oe,b3.extBut _ _ ne f1,f2⟩
     rcases dd with ⟨x',o',g',_⟩|⟨_,rfl⟩
     .have:=(am.mp g').1;omega
     .rw [eo];rfl
 .have p0:Pg X pins Z H s i ch [] (r::L) [] [] s.heap s.toks:=⟨I,(λ_ h=>by cases h),ow,.nil,rfl,rfl,λ_ _ _ e=>e⟩
  exact ⟨[],r::L,[],[],ws0,h1,s.toks,o,rfl,by simp,rfl,p0.turn hf mz b1 (λ_ h=>by cases h) nz,rfl,z1,b1.extBut _ _ oz ho,lw,d,by cases o<;>simp⟩
end
def fpz(z TI TO:Addr)(L:List Src):List Addr:=z::TI::TO::L.map (·.a)
structure FarN (z TI TO:Addr) (L:List Src):Prop where
 a:TI≠z
 b:TO≠z
 e:TI≠TO
 z:∀r∈L,r.a≠z
 i:∀r∈L,r.a≠TI
 o:∀r∈L,r.a≠TO
 nd:(L.map (·.a)).Nodup
def zsn(z TI TO:Addr)(L:List Src)(i:Nat)(H:Hp)(h:Heap):Prop :=
 IsT h TI (L.map λr=>.ref r.a)/\owns i h L/\(∃ws,IsT h TO ws/\ws.length=L.length) /\
  (IsZip h z TI TO .none\/∃(T:Addr) (fb:Bool) (vs:List V),IsZ h z TI TO (rawInt (T:Nat)) (.bool fb)/\H T=some (.tup vs))
section
variable{X:Cx}{A:Around}{E:Value->Shared->Prop}{s:Shared}{H:Hp}{pins:List (Addr×Obj)}{Z:St}{z TI TO:Addr}{i:Nat}{o:Option (List V)}{r:Src}{L:List Src}
theorem ao2{Q:Option Value->Shared->Prop}(f:FarN z TI TO (r::L))(hA:A.handled=none)(I:Inv X pins Z H s)(hf:∀b∈fpz z TI TO (r::L),FpOk X pins H b)(st:zsn z TI TO (r::L) i H s.heap)(hl:(r::L).length<=sizeLine)(d:Drw H i (r::L) o)
  (qi:∀row h' tk,o=some row->Inv X pins Z (upd H s.heap.objs.size (.tup row)) {s with heap:=h',toks:=tk}->zsn z TI TO (r::L) (i+1) (upd H s.heap.objs.size (.tup row)) h'->(IsZip s.heap z TI TO .none->IsZip h' z TI TO (rawInt s.heap.objs.size))->Q (some (.ref s.heap.objs.size)) {s with heap:=h',toks:=tk})
  (qe:o=none->∀h' tk,Inv X pins Z H {s with heap:=h',toks:=tk}->Q none {s with heap:=h',toks:=tk}):wpAny (model X.prog X.w) A (pyNext (.ref z)) Q E s:=by
 obtain ⟨hi,ow,⟨ws,ho,lw⟩,st⟩:=st;have ty:s.TypeIs (.ref z) "zip":=by rcases st with e|⟨_,_,_,e,_⟩<;>exact ⟨_,e,rfl⟩
 have hp:H s.heap.objs.size=none:=I.hok.fresh (aA _);have mz:z∈fpz z TI TO (r::L):=by simp [fpz]
 have mo:TO∈fpz z TI TO (r::L):=by simp [fpz]
 have mL:∀r'∈r::L,r'.a∈fpz z TI TO (r::L):=λr' m=>ay _ (ay _ (ay _ (b6.mpr ⟨r',m,rfl⟩)));have fin:∀(ch:List Addr) row us h' h2 tk,z∈ch->TI∉ch->o=some row->Pg X pins Z H s i ch (r::L) [] row us h' tk->(∃ws,IsT h' TO ws/\ws.length=(r::L).length)->
   (∃(T:Addr) (fb:Bool),IsZ h2 z TI TO (rawInt (T:Nat)) (.bool fb)/\(T=h'.objs.size\/∃vs,H T=some (.tup vs)))->(∀c ob,c≠z->(h'.push {cls:=.type "tuple",data:=.seq us.toArray}).get? c=some ob->h2.get? c=some ob)->(IsZip s.heap z TI TO .none->IsZip h2 z TI TO (rawInt h'.objs.size))->
   Q (some (.ref h'.objs.size)) {s with heap:=h2,toks:=tk}:=by
  intro ch row us h' h2 tk cz ci eo p ⟨ws,to,lw⟩ ⟨T,fb,zz,hT⟩ fr zi
  have sz:=p.sz;have I0:Inv X pins Z (upd H h'.objs.size (.tup row)) {s with heap:=h'.push {cls:=.type "tuple",data:=.seq us.toArray},toks:=tk} :=
   p.inv.laid (t':=tk) (o:=.tup row) (λb o e=>ai _ e) (aA _) ⟨by rw [p.vs.length,p.ln];exact hl,us,p.vs,⟨_,aJ _ rfl,rfl,_,rfl⟩⟩
  have nz:z≠h'.objs.size:=λe=>by
   obtain ⟨ot,e0⟩:∃ot,s.heap.get? z=some ot:=by rcases st with e|⟨_,_,_,e,_⟩<;>exact ⟨_,e⟩
   exact absurd (aG e0) (by rw [e,sz];exact bC _)
  have I1:Inv X pins Z (upd H h'.objs.size (.tup row)) {s with heap:=h2,toks:=tk}:=by
   refine a9i (s:={s with heap:=h'.push {cls:=.type "tuple",data:=.seq us.toArray},toks:=tk}) (ch:=[z]) I0 (λb hb=>?_) λc o nc e=>fr c o (by simpa using nc) e
   rw [aD.mp hb];obtain ⟨f0,f1⟩:=hf z mz;exact ⟨by rw [jc nz];exact f0,f1⟩
  rw [sz] at I1 hT zi ⊢;refine qi row h2 tk eo I1 ⟨fr _ _ f.a (ai _ (p.fr _ _ ci hi)),λr' m=>a1g (p.o1 r' m) λob e=>fr _ _ (f.z r' m) (ai _ e),⟨ws,fr _ _ f.b (ai _ to),lw⟩,.inr ?_⟩ zi
  rcases hT with rfl|⟨vs,hT⟩
  .exact ⟨_,fb,row,zz,km⟩
  .exact ⟨T,fb,vs,zz,by rw [jc λe=>by rw [e,hp] at hT;cases hT];exact hT⟩
 have fe:∀(ch:List Addr),(∀b∈ch,b∈fpz z TI TO (r::L))->o=none->∀h' tk e,(∀c ob,c∉ch->s.heap.get? c=some ob->h'.get? c=some ob)->(∃o,h'.get? e=some o/\o.cls=.type "StopIteration")->
   wpAny (model X.prog X.w) A (isInstance (.ref e) (.type "StopIteration")>>=λb=>if b=true then pure none else throw (Value.ref e)) Q E {s with heap:=h',toks:=tk}:=by
  intro ch hc en h' tk e fr ⟨o,f1,f2⟩
  exact af (dM (b:=true) (T := "StopIteration") ⟨o,f1,f2⟩ isSubtype_stop (ar (qe en h' tk (a9i I (λb hb=>hf b (hc b hb)) fr))))
 rw [pyNext]
 apply af;apply iq
 apply cK (name:=Str.ofString "__next__") ty F.slot_zip_next
 apply bX F.slot_zip_next ty F.entry_zip_next _ (F.args_zip_next_1 _)
 rcases st with hz|⟨T,fb,vs,hz,hT⟩
 .have sub:∀b∈z::TO::(r::L).map (·.a),b∈fpz z TI TO (r::L):=λb hb=>by
   simp only [fpz,aC] at hb ⊢
   rcases hb with h|h|h
   .exact .inl h
   .exact .inr (.inr (.inl h))
   .exact .inr (.inr (.inr h))
  refine b1u (ch:=z::TO::(r::L).map (·.a)) hA hz hi ho lw I (λb hb=>hf b (sub b hb)) (by simp) (by simp) f.b (λr' m=>ay _ (ay _ (b6.mpr ⟨r',m,rfl⟩))) f.z f.o f.nd ow hl d (λrow us h' h2 tk eo p to zz fr=>⟨_,rfl,ar ?_⟩) λen h' tk e fr so=>fe _ sub en h' tk e fr so
  refine fin _ row us h' h2 tk aI (λm=>?_) eo p ⟨us,to,p.ln⟩ ⟨_,false,zz,.inl rfl⟩ fr λ_=>zz
  rcases aC.mp m with h|m
  .exact f.a h
  .rcases aC.mp m with h|m
   .exact f.e h
   .obtain ⟨r',m,e⟩:=b6.mp m;exact f.i r' m e
 .obtain ⟨us,_,⟨ot,q1,_⟩,_⟩:=I.tuple (SqT.of hT);have sub:∀b∈z::(r::L).map (·.a),b∈fpz z TI TO (r::L):=λb hb=>by
   simp only [fpz,aC] at hb ⊢
   rcases hb with h|h
   .exact .inl h
   .exact .inr (.inr (.inr h))
  have out:∀{c},c≠z->(∀r'∈r::L,r'.a≠c)->c∉z::(r::L).map (·.a):=λh1 h2 m=>by
   rcases aC.mp m with h|m
   .exact h1 h
   .obtain ⟨r',m,e⟩:=b6.mp m;exact h2 r' m e
  refine b1s (ch:=z::(r::L).map (·.a)) hA hz q1 hi I (λb hb=>hf b (sub b hb)) (by simp) (λr' m=>ay _ (b6.mpr ⟨r',m,rfl⟩)) f.z f.nd ow hl d (λrow us h' tk eo p zz=>⟨_,rfl,ar ?_⟩) λen h' tk e fr so=>fe _ sub en h' tk e fr so
  refine fin _ row us h' _ tk aI (out f.a f.i) eo p ⟨ws,p.fr _ _ (out f.b f.o) ho,lw⟩ ⟨T,true,ai _ zz,.inr ⟨vs,hT⟩⟩ (λc ob _ e=>e) λe=>?_;have q:=ap (Eq.symm hz) e;simp [rawInt] at q
end
noncomputable def ItN(ks:List Srk):It where
 go:=λi H=>∃row,Drk H i ks (some row)
 yld:=λi H v H'=>∃row p,Drk H i ks (some row)/\H p=none/\v=.ref p/\H'=upd H p (.tup row)
 stop:=λi H=>Drk H i ks none
def tnN(z TI TO:Addr)(L:List Src)(i:Nat)(h:Heap):Prop:=IsZip h z TI TO .none/\IsT h TI (L.map λr=>.ref r.a)/\(∃ws,IsT h TO ws/\ws.length=L.length)/\owns i h L
theorem zlt{z TI TO:Addr}{L:List Src}{h:Heap}{i:Nat}{f0 f1:Value}(h1:IsZ h z TI TO f0 f1)(h2:IsT h TI (L.map λr=>.ref r.a))(h3:∃ws,IsT h TO ws/\ws.length=L.length)(h4:owns i h L):∀c∈fpz z TI TO L,c<h.objs.size:=λc hb=>by
 obtain ⟨ws,h3,_⟩:=h3
 rcases aC.mp hb with rfl|hb
 .exact aG h1
 rcases aC.mp hb with rfl|hb
 .exact aG h2
 rcases aC.mp hb with rfl|hb
 .exact aG h3
 obtain ⟨r',m,rfl⟩:=b6.mp hb;obtain ⟨_,e,_⟩:=aiy (h4 r' m);exact aG e
theorem akb{P:Program}{w:World}{K:PySem.W.Frag}{elts:List Expr}{x1:Nat}{pos:Pos}{z TI TO:Addr}{r:Src}{L:List Src}(f:FarN z TI TO (r::L))(hl:(r::L).length<=sizeLine):Turn P w K (.Tuple elts x1 pos) (ItN ((r::L).map (·.k))) (fpz z TI TO (r::L)) z (tnN z TI TO (r::L)) where
 mem:=by simp [fpz]
 obj:=λi h st b hb=>by
  obtain ⟨h1,h2,⟨ws,h3,_⟩,h4⟩:=st
  rcases aC.mp hb with rfl|hb
  .exact ⟨_,h1,λv z=>(by cases z)⟩
  rcases aC.mp hb with rfl|hb
  .exact ⟨_,h2,λv z=>(by cases z)⟩
  rcases aC.mp hb with rfl|hb
  .exact ⟨_,h3,λv z=>(by cases z)⟩
  obtain ⟨r',m,rfl⟩:=b6.mp hb;exact aiy (h4 r' m)
 keep:=λi h h' st k=>by
  obtain ⟨h1,h2,⟨ws,h3,l⟩,h4⟩:=st;exact ⟨k z (by simp [fpz]) _ h1,k TI (by simp [fpz]) _ h2,⟨ws,k TO (by simp [fpz]) _ h3,l⟩,λr' m=>a1g (h4 r' m) λob e=>k r'.a (ay _ (ay _ (ay _ (b6.mpr ⟨r',m,rfl⟩)))) ob e⟩
 item:=by
  intro X hP hw hK hc i pins s Z H E I hf st hg
  subst hP hw hK;obtain ⟨row,d⟩:=hg;obtain ⟨h1,h2,h3,h4⟩:=st;refine ao2 f (I.ok.hd hc) I hf ⟨h2,h4,h3,.inl h1⟩ hl d (λrow' h' tk eo I1 st zi=>?_) λen=>by cases en
  cases eo
  refine ⟨_,rfl,wpAny_letOwnedTupleGo_zip (zi h1) λh2' z2' sb=>?_⟩;have hp:H s.heap.objs.size=none:=I.hok.fresh (aA _);have lt:∀c∈fpz z TI TO (r::L),c≠s.heap.objs.size:=λc hc=>aV (zlt h1 h2 h3 h4 c hc);obtain ⟨g2,g4,⟨ws,g3,l⟩,_⟩:=st;refine ⟨.ref s.heap.objs.size,_,a9i (s:={s with heap:=h',toks:=tk}) (t':=tk) (ch:=[z]) I1 (λb hb=>?_) (λc o nc e=>sb.extBut _ _ (by simpa using nc) e),rfl,⟨row,_,d,hp,rfl,rfl⟩,⟨z2',sb.extBut _ _ f.a g2,⟨ws,sb.extBut _ _ f.b g3,l⟩,λr' m=>a1g (g4 r' m) λob e=>sb.extBut _ _ (f.z r' m) e⟩,λb hb=>?_⟩
  .rw [aD.mp hb];obtain ⟨f0,f1⟩:=hf z (by simp [fpz])
   exact ⟨by rw [jc (lt z (by simp [fpz]))];exact f0,f1⟩
  .rw [jc (lt b hb)];exact (hf b hb).1
 done:=by
  intro X hP hw hK hc i pins s Z H E I hf st hg
  subst hP hw hK;obtain ⟨h1,h2,h3,h4⟩:=st;exact ao2 f (I.ok.hd hc) I hf ⟨h2,h4,h3,.inl h1⟩ hl (o:=none) hg (λrow h' tk eo=>by cases eo) λ_ h' tk I'=>⟨rfl,I'⟩
 self:=λ_ _ _ _ _ st h=>iH st.1 h
end ZP
namespace MI
open L2 ZP PySem.Builtin PySem.Builtin.SmallTypes
section
variable{X:Cx}{A:Around}{z TI TO S:Addr}{r:Src}{L:List Src}{pins:List (Addr×Obj)}{Z:St}{U0 U:List Addr}{H0:Hp}{h0:Hd}{dr:List (List D)}{res:Value}{R:Result->Shared->Prop}
theorem awa(f:FarN z TI TO (r::L))(hA:A.handled=none)(hl:(r::L).length<=sizeLine)(iS:U[h0.length]? = some S)(hn:dr.length<=sizeLine)
  (Fs:∀H' a,Gr U0 H0 U H'->HRep X.K U H' (h0++[.lst a])->(∀i ds,dr[i]? = some ds->∃row,Drw H' i (r::L) (some row)/\Reps X.K U H' row ds)/\Drw H' dr.length (r::L) none)
  (fin:∀s' H',Inv X pins Z H' s'->Gr U0 H0 U H'->HRep X.K U H' (h0++[.lst (dr.map .tup)])->R (.ok (.ret res)) s') :
  ∀n i s H,dr.length-i=n->i<=dr.length->Inv X pins Z H s->(∀b∈fpz z TI TO (r::L),FpOk X pins H b)->zsn z TI TO (r::L) i H s.heap->Gr U0 H0 U H->HRep X.K U H (h0++[.lst ((dr.map .tup).take i)])->
   codeAny (model X.prog X.w) A (.builtin "list.extend.loop" ⟨[.ref S,.ref z,res],[]⟩) R s:=by
 intro n
 induction n with
 |zero =>
  intro i s H hk hi I hf st g hr
  obtain rfl:i=dr.length:=by omega
  apply cQ F.entry_extend_loop
  rw [bW eE]
  change wpAny _ A.in1 (pyNext (.ref z)>>=_) _ _ s
  refine af (ao2 f hA I hf st hl (Fs H _ g hr).2 (λrow h' tk eo=>by cases eo) λ_ h' tk I'=>ar ?_)
  rw [bV (by simp)] at hr
  exact fin _ _ I' g hr
 |succ n ih =>
  intro i s H hk hi I hf st g hr
  have lt:i<dr.length:=by omega
  obtain ⟨row,d,rr⟩:=(Fs H _ g hr).1 i dr[i] (ag lt);have nS:∀b∈fpz z TI TO (r::L),b≠s.heap.objs.size:=by
   obtain ⟨g2,g4,g3,zz⟩:=id st
   rcases zz with e|⟨_,_,_,e,_⟩<;>exact λb hb=>aV (zlt e g2 g3 g4 b hb)
  apply cQ F.entry_extend_loop
  rw [bW eE]
  change wpAny _ A.in1 (pyNext (.ref z)>>=_) _ _ s
  refine af (ao2 f hA I hf st hl d (λrow' h' tk eo I' st' _=>?_) λen=>by cases en)
  cases eo
  have hp:H s.heap.objs.size=none:=I.hok.fresh (aA _);have hr1:=hr.aside hp (.tup row);have g1:=g.trans (zf hp (.tup row));obtain ⟨vs,q1,q2⟩:=hr1.lst iS (xs:=(dr.map .tup).take i) (by simp)
  obtain ⟨z1,us,c,r1,l1,o1⟩:=I'.lstM q1
  change wpAny _ A.in1 (updateSeq S (·.push (.ref s.heap.objs.size))>>=_) _ _ _
  have lv:vs.length=i:=by rw [q2.len,bg,ax];omega
  have q3:Reps X.K U (upd H s.heap.objs.size (.tup row)) (vs++[.ref s.heap.objs.size]) ((dr.map .tup).take (i+1)):=by
   rw [List.take_succ,aN,ag lt];exact q2.snoc (.tup km (rr.mono (zf hp _)))
  have rv:Vals [V.ref s.heap.objs.size] [Value.ref s.heap.objs.size]:=.cons rfl .nil;have I2:=I'.lset (t':=tk) (f:=λa=>a.push (.ref s.heap.objs.size)) (its':=us++[.ref s.heap.objs.size]) (ys:=vs++[.ref s.heap.objs.size]) q1 o1 (by simp) (r1.append rv) (by simp;omega)
  have hf':∀b∈fpz z TI TO (r::L),upd H s.heap.objs.size (.tup row) b=none:=λb hb=>by rw [jc (nS b hb)];exact (hf b hb).1
  have nl:∀b∈fpz z TI TO (r::L),b≠S:=λb hb e=>by have:=hf' b hb;rw [e,q1] at this;cases this
  have kp:∀b∈fpz z TI TO (r::L),∀o,h'.get? b=some o->(h'.update S (Obj.mapSeq λa=>a.push (.ref s.heap.objs.size))).get? b=some o:=λb hb o e=>(bU _ _ (nl b hb).symm).trans e;refine af (cU o1 rfl (ar ⟨dR eE _,ih (i+1) _ _ (by omega) lt I2 (λb hb=>⟨by rw [jc (nl b hb)];exact hf' b hb,(hf b hb).2⟩) ?_ (g1.trans (a5q hr1 iS _)) ?_⟩) (by simp;omega) (by simp;omega))
  .obtain ⟨g2,g4,⟨ws,g3,l⟩,zz⟩:=st';refine ⟨kp _ (by simp [fpz]) _ g2,λr' m=>a1g (g4 r' m) λob e=>kp _ (ay _ (ay _ (ay _ (b6.mpr ⟨r',m,rfl⟩)))) _ e,⟨ws,kp _ (by simp [fpz]) _ g3,l⟩,?_⟩
   rcases zz with e|⟨T,fb,vs,e,t⟩
   .exact .inl (kp _ (by simp [fpz]) _ e)
   .exact .inr ⟨T,fb,vs,kp _ (by simp [fpz]) _ e,by rw [jc λz=>by rw [z,q1] at t;cases t];exact t⟩
  .have:=hr1.put iS (o:=.lst (vs++[.ref s.heap.objs.size])) (ob:=.lst ((dr.map .tup).take (i+1))) ⟨_,km,q3.mono (a5q hr1 iS _)⟩
   simpa using this
end
theorem ah6:typeLookup (.type "zip") "__len__" = pure none:=by rw [gR,eO];kernel_rfl
theorem adi:typeLookup (.type "zip") "__length_hint__" = pure none:=by rw [gR,eO];kernel_rfl
theorem a9z(H:Hp)(a:Addr)(o o':HO):upd (upd H a o) a o'=upd H a o':=by
 funext b
 unfold upd
 split<;>rfl
theorem awb{z TI TO:Addr}{L:List Src}{i:Nat}{H H':Hp}{h h':Heap}(st:zsn z TI TO L i H h)(k:∀b∈fpz z TI TO L,∀o,h.get? b=some o->h'.get? b=some o)(kt:∀b vs,H b=some (.tup vs)->H' b=some (.tup vs)):zsn z TI TO L i H' h':=by
 obtain ⟨h2,h4,⟨ws,h3,l⟩,zz⟩:=st;refine ⟨k TI (by simp [fpz]) _ h2,λr' m=>a1g (h4 r' m) λob e=>k _ (ay _ (ay _ (ay _ (b6.mpr ⟨r',m,rfl⟩)))) _ e,⟨ws,k TO (by simp [fpz]) _ h3,l⟩,?_⟩
 rcases zz with e|⟨T,fb,vs,e,t⟩
 .exact .inl (k z (by simp [fpz]) _ e)
 .exact .inr ⟨T,fb,vs,k z (by simp [fpz]) _ e,kt _ _ t⟩
section
variable{X:Cx}{A:Around}{E:Value->Shared->Prop}{s:Shared}{z TI TO:Addr}{r:Src}{L:List Src}{pins:List (Addr×Obj)}{Z:St}{U:List Addr}{H:Hp}{h0:Hd}{dr:List (List D)}
theorem ah7{Q:Value->Shared->Prop}(f:FarN z TI TO (r::L))(hA:A.handled=none)(hl:(r::L).length<=sizeLine)(hn:dr.length<=sizeLine)(I:Inv X pins Z H s)(hf:∀b∈fpz z TI TO (r::L),FpOk X pins H b)(st:zsn z TI TO (r::L) 0 H s.heap)(hz:IsZip s.heap z TI TO .none)(hr:HRep X.K U H h0)
  (Fs:∀U' H' a,Gr U H U' H'->HRep X.K U' H' (h0++[.lst a])->(∀i ds,dr[i]? = some ds->∃row,Drw H' i (r::L) (some row)/\Reps X.K U' H' row ds)/\Drw H' dr.length (r::L) none)
  (fin:∀s' H',Inv X pins Z H' s'->Gr U H (U++[s.heap.objs.size]) H'->HRep X.K (U++[s.heap.objs.size]) H' (h0++[.lst (dr.map .tup)])->Q (.ref s.heap.objs.size) s') :
  wpAny (model X.prog X.w) A (call (.type "list") [.ref z]) Q E s:=by
 have hp:H s.heap.objs.size=none:=I.hok.fresh (aA _);have nz:∀b∈fpz z TI TO (r::L),b≠s.heap.objs.size:=λb hb=>aV (zlt hz st.1 st.2.2.1 st.2.1 b hb);have mz:z∈fpz z TI TO (r::L):=by simp [fpz]
 have born:=code_list_new (prog:=X.prog) (w:=X.w) (A:=A.in1) (E:=E) (s:=s) (.ref z) (Q₁:=λv t=>v=.ref s.heap.objs.size/\t={s with heap:=s.heap.push {cls:=.type "list",data:=.seq #[]} }) ⟨rfl,rfl⟩
 refine callType_codes F.called_list (F.typeCall_list_1 _) F.entry_list_init born ?_
 rintro _ _ ⟨rfl,rfl⟩
 have o1:(s.heap.push {cls:=.type "list",data:=.seq #[]}).get? s.heap.objs.size=some {cls:=.type "list",data:=.seq #[]}:=aJ _ rfl;have I1:Inv X pins Z (upd H s.heap.objs.size (.lst [])) {s with heap:=s.heap.push {cls:=.type "list",data:=.seq #[]} }:=I.lnew (ys:=[]) (its:=[]) (t':=s.toks) .nil (bq _)
 refine ⟨⟨_,o1,rfl⟩,F.args_list_init_2 _ _,?_⟩;show wpAny _ _ (do let old <-Builtin.List.listItems (.ref s.heap.objs.size);Builtin.List.listUpdate (.ref s.heap.objs.size) (λ_ => #[]);letGo old.toList.reverse;Builtin.List.listExtendWith (.ref s.heap.objs.size) (.ref z) .none) _ _ _
 refine af ?_;unfold Builtin.List.listItems;refine af (dE o1 rfl (ar ?_));show wpAny _ _ (updateSeq s.heap.objs.size (λ_ => #[])>>=λ_=>letGo (#[]:Array Value).toList.reverse>>=λ_=>Builtin.List.listExtendWith (.ref s.heap.objs.size) (.ref z) .none) _ _ _;refine af (cU o1 rfl ?_);have I2:=I1.lset (t':=s.toks) (f:=λ_ => #[]) (its:=[]) (its':=[]) (ys:=[]) km o1 rfl .nil (bq _);have o2:=bG (Obj.mapSeq (λ_=>(#[]:Array Value))) o1 rfl
 rw [a9z] at I2;refine af (wpAny_letGo ?_);have far:∀(F:Obj->Obj) (h':Heap) b o,b∈fpz z TI TO (r::L)->h'.get? b=some o->(h'.update s.heap.objs.size F).get? b=some o:=λF h' b o hb e=>(bU _ _ (nz b hb).symm).trans e;have st2:zsn z TI TO (r::L) 0 (upd H s.heap.objs.size (.lst [])) ((s.heap.push {cls:=.type "list",data:=.seq #[]}).update s.heap.objs.size (Obj.mapSeq λ_=>(#[]:Array Value))) :=
  awb st (λb hb o e=>far _ _ b o hb (ai _ e)) λb vs e=>by rw [jc λz=>by rw [z,hp] at e;cases e];exact e
 have zi:IsZip ((s.heap.push {cls:=.type "list",data:=.seq #[]}).update s.heap.objs.size (Obj.mapSeq λ_=>(#[]:Array Value))) z TI TO .none:=far _ _ z _ mz (ai _ hz);have tz:Shared.TypeIs {s with heap:=(s.heap.push {cls:=.type "list",data:=.seq #[]}).update s.heap.objs.size (Obj.mapSeq λ_=>(#[]:Array Value))} (.ref z) "zip":=⟨_,zi,rfl⟩
 have other:Builtin.List.listSameRef (.ref s.heap.objs.size) (.ref z)=false:=by simp [Builtin.List.listSameRef,(nz z mz).symm]
 rw [Builtin.List.listExtendWith]
 apply af;apply gy tz
 rw [other,show (Value.type "zip" == Value.type "list")=false by decide,show (Value.type "zip" == Value.type "tuple")=false by decide]
 apply af;refine iH (s:={s with heap:=_}) zi ?_
 apply af;apply bR
 rw [Builtin.List.listLengthHint]
 apply af;apply gS tz ah6
 change wpAny _ _ (specialOf (Value.ref z) (Str.ofString "__length_hint__")>>=_) _ _ _
 apply af;apply gS tz adi
 apply ar
 change wpAny _ _ (rule "list.extend.makes-room">>=_) _ _ _
 apply af;apply eU
 apply af
 change wpAny _ _ (updateSeq s.heap.objs.size (·.push .none)>>=λ_=>updateSeq s.heap.objs.size (·.pop)) _ _ _
 refine af (cU o2 rfl ?_);have rn:Vals [V.non] [Value.none]:=.cons rfl .nil;have I3:=I2.lset (t':=s.toks) (f:=λa=>a.push .none) (its:=[]) (its':=[.none]) (ys:=[.non]) km o2 rfl rn (by show 1<=sizeLine;decide)
 have o3:=bG (Obj.mapSeq (λa=>a.push Value.none)) o2 rfl;rw [a9z] at I3;refine cU (hz:=by seq_fits) o3 rfl ?_
 have I4:=I3.lset (t':=s.toks) (f:=λa=>a.pop) (its:=[.none]) (its':=[]) (ys:=[]) km o3 rfl .nil (bq _);rw [a9z] at I4;have lz:(U++[s.heap.objs.size])[h0.length]? = some s.heap.objs.size:=by rw [aB (by rw [hr.len];exact aA _),hr.len];simp
 refine ar ⟨dR eE _,awa (A:=A.in1) (U0:=U) (H0:=H) f hA hl lz hn (λH' a=>Fs _ H' a) (λs' H' i g r=>⟨rfl,fin s' H' i g r⟩) _ 0 _ _ rfl (bq _) I4 (λb hb=>?_) ?_ (aef hp _) ?_⟩
 .obtain ⟨g0,g1⟩:=hf b hb;exact ⟨by rw [jc (nz b hb)];exact g0,g1⟩
 .exact awb st2 (λb hb o e=>far _ _ b o hb (far _ _ b o hb e)) λ_ _ e=>e
 .rw [fk];exact hr.add hp ⟨[],km,.nil⟩
end
structure Its (h h':Heap) (ks:List Srk) (L:List Src):Prop where
 k:L.map (·.k)=ks
 ge:∀r∈L,h.objs.size<=r.a/\r.a<h'.objs.size/\h'.get? r.a=some (iob r.t r.k)
 nd:(L.map (·.a)).Nodup
 kp:∀b o,h.get? b=some o->h'.get? b=some o
 le:h.objs.size<=h'.objs.size
section
variable{prog:Program}{w:World}{A:Around}{E:Value->Shared->Prop}{s:Shared}
theorem ao3{ks:List Srk}{us:List Value}{Q:List Value->Shared->Prop}(vs:Vals (ks.map (·.v)) us)(c:∀k∈ks,∃ws,cont s.heap k ws)
  (q:∀L h',Its s.heap h' ks L->Q (L.map λr=>.ref r.a) {s with heap:=h' }):wpAny (model prog w) A (iterAll us) Q E s:=by
 unfold iterAll
 apply af
 refine a4n (λl b s'=>∃k1 k2 L h',ks=k1++k2/\Vals (k2.map (·.v)) l/\b=(L.map λr=>Value.ref r.a).toArray/\Its s.heap h' k1 L/\s'={s with heap:=h' }) (λb s' p=>?_) (λa l b s' p=>?_) _ _ _ ⟨[],ks,[],s.heap,rfl,vs,rfl,⟨rfl,(λ_ h=>by cases h),.nil,λ_ _ e=>e,aA _⟩,rfl⟩
 .obtain ⟨k1,k2,L,h',e,v,rfl,i,rfl⟩:=p;obtain rfl:k2=[]:=by simpa using v.length
  rw [bL] at e;subst e;exact ar (q L h' i)
 .obtain ⟨k1,k2,L,h',e,v,rfl,i,rfl⟩:=p
  cases k2 with
  |nil=>cases v
  |cons k k2 =>
   cases v with
   |cons r v =>
    obtain ⟨t,rfl⟩:=avj r;obtain ⟨ws,cw⟩:=c k (by rw [e];simp)
    have cw':cont h' k ws:=by
     cases k with
     |tup a=>obtain ⟨ob,e,r⟩:=cw;exact ⟨ob,i.kp _ _ e,r⟩
     |lst a=>obtain ⟨ob,e,r⟩:=cw;exact ⟨ob,i.kp _ _ e,r⟩
     |str x=>trivial
    apply af;apply bR
    refine amo (s:={s with heap:=h' }) (t:=t) cw' (ar ⟨k1++[k],k2,L++[⟨h'.objs.size,t,k⟩],h'.push (iob t k),by simp [e],v,by simp,⟨by simp [i.k],λr hr=>?_,?_,λb o e=>ai _ (i.kp b o e),?_⟩,rfl⟩)
    .rcases aZ.mp hr with m|m
     .obtain ⟨a,b,c⟩:=i.ge r m;exact ⟨a,by rw [cB];exact fY b,ai _ c⟩
     .rw [aD.mp m];exact ⟨i.le,by rw [cB];exact eH _,aJ _ (by cases k<;>rfl)⟩
    .rw [cI,bQ];refine ⟨i.nd,by simp,λa ha b hb e=>?_⟩
     obtain ⟨r,m,rfl⟩:=b6.mp ha;have:=(i.ge r m).2.1;rw [e,aD.mp hb] at this;exact absurd this (bC _)
    .rw [cB];exact Nat.le_succ_of_le i.le
end
theorem akc{ks:List Srk}{us:List Value}(hl:ks.length<=sizeLine):Meets (Builtin.«zip.__new__» ⟨.type "zip"::us,[]⟩)
  (λ_ R s=>Vals (ks.map (·.v)) us/\(∀k∈ks,∃ws,cont s.heap k ws)/\∀L h',Its s.heap h' ks L->R (.ok (.ret (.ref (h'.objs.size+2)))) {s with heap:=((h'.push {cls:=.type "tuple",data:=.seq (L.map λr=>Value.ref r.a).toArray}).push {cls:=.type "tuple",data:=.seq (L.map λ_=>Value.none).toArray}).push {cls:=.type "zip",data:=.fields #[.none,.bool false,.bool false,.ref h'.objs.size,.ref (h'.objs.size+1)]} }) :=
 .of_wp λprog w A R s h=>by
  obtain ⟨v,c,h⟩:=h;have sub:=sub_zip
  wp_walk using ao3 v c
  intro L h' i
  have lL:L.length=ks.length:=by rw [<-i.k,ax]
  apply af;refine hW ?_ (by simpa [lL] using hl)
  apply af;refine hW ?_ (by simpa [lL] using hl)
  wp_walk
  refine ⟨_,rfl,?_⟩;simpa [cB,ownedTupleFields,Nat.add_assoc,Function.comp_def] using h L h' i
section
variable{X:Cx}{s:Shared}{H:Hp}{E:Value->Shared->Prop}{pins:List (Addr×Obj)}{Z:St}
theorem awc{a n j:Nat}(h:a<n):a≠n+j:=by omega
theorem ac0{ks:List Srk}{us:List Value}{Q:Value->Shared->Prop}(hl:ks.length<=sizeLine)(hct:checkTypeCall "zip" ⟨us,[]⟩=pure ())(hcn:checkBuiltinCall "zip.__new__" ⟨.type "zip"::us,[]⟩=pure ())(hok:∀obj,argsOk "object.__init__" ⟨obj::us,[]⟩)
  (I:Inv X pins Z H s) (vs:Vals (ks.map (·.v)) us) (c:∀k∈ks,∃xs,its H k=some xs)
  (q:∀h' z TI TO L,L.map (·.k)=ks->Inv X pins Z H {s with heap:=h' }->FarN z TI TO L->(∀b∈fpz z TI TO L,FpOk X pins H b)->zsn z TI TO L 0 H h'->IsZip h' z TI TO .none->Q (.ref z) {s with heap:=h' }) :
  wpAny (model X.prog X.w) X.A (call (.type "zip") us) Q E s:=by
 refine callType_new F.called_zip (by decide) hct hcn hok F.entry_zip_new (akc hl) ⟨vs,λk m=>?_,λL h' i=>?_⟩
 .obtain ⟨xs,e⟩:=c k m;obtain ⟨ws,cw,_⟩:=ad0 I e;exact ⟨ws,cw⟩
 have z0:IsT (((h'.push {cls:=.type "tuple",data:=.seq (L.map λr=>Value.ref r.a).toArray}).push {cls:=.type "tuple",data:=.seq (L.map λ_=>Value.none).toArray}).push {cls:=.type "zip",data:=.fields #[.none,.bool false,.bool false,.ref h'.objs.size,.ref (h'.objs.size+1)]}) h'.objs.size (L.map λr=>.ref r.a) :=
  ai _ (ai _ (aJ _ rfl))
 have z1:=aJ (o:={cls:=.type "tuple",data:=.seq (L.map λ_=>Value.none).toArray}) (h'.push {cls:=.type "tuple",data:=.seq (L.map λr=>Value.ref r.a).toArray}) rfl;rw [cB] at z1;have z2:=aJ (o:={cls:=.type "zip",data:=.fields #[.none,.bool false,.bool false,.ref h'.objs.size,.ref (h'.objs.size+1)]}) ((h'.push {cls:=.type "tuple",data:=.seq (L.map λr=>Value.ref r.a).toArray}).push {cls:=.type "tuple",data:=.seq (L.map λ_=>Value.none).toArray}) rfl
 rw [cB,cB] at z2;have lt:∀r∈L,∀j,r.a≠h'.objs.size+j:=λr m j=>awc (i.ge r m).2.1;refine ⟨⟨_,z2,rfl⟩,q _ _ _ _ L i.k (I.kept (t':=s.toks) λb o e=>ai _ (ai _ (ai _ (i.kp b o e)))) ⟨?_,?_,?_,λr m=>lt r m 2,λr m=>lt r m 0,λr m=>lt r m 1,i.nd⟩ (λb hb=>?_) ⟨z0,λr m=>?_,⟨_,ai _ z1,by simp⟩,.inl z2⟩ z2⟩
 .intro e;have e:(_:Nat)=_:=e;omega
 .intro e;have e:(_:Nat)=_:=e;omega
 .intro e;have e:(_:Nat)=_:=e;omega
 .have:s.heap.objs.size<=b:=by
   have le:=i.le
   rcases aC.mp hb with rfl|hb
   .exact aW le (Nat.le_add_right _ 2)
   rcases aC.mp hb with rfl|hb
   .exact le
   rcases aC.mp hb with rfl|hb
   .exact aW le (Nat.le_add_right _ 1)
   obtain ⟨r,m,rfl⟩:=b6.mp hb;exact (i.ge r m).1
  exact I.fpOk this (I.hok.fresh this)
 .exact b1l (ai _ (ai _ (ai _ (i.ge r m).2.2)))
end
theorem akd:∀{ks:List Srk} {o o':Option (List V)},Drk H i ks o->Drk H i ks o'->o=o'
 |[],_,_,a,b=>a.trans b.symm
 |k::ks,o,o',⟨xs,e,a⟩,⟨ys,e',b⟩=>by
  rw [e] at e';cases e'
  rcases a with ⟨x,p,g,d,rfl⟩|⟨g,rfl⟩<;>rcases b with ⟨y,q,g',d',rfl⟩|⟨g',rfl⟩
  .rw [g] at g';cases g';rw [akd d d']
  .have:=(am.mp g).1;omega
  .have:=(am.mp g').1;omega
  .rfl
def RD(K:PySem.W.Frag)(U:List Addr)(H:Hp)(i:Nat)(ks:List Srk):Option (List D)->Prop
 |some ds=>∃row,Drk H i ks (some row)/\Reps K U H row ds
 |none=>Drk H i ks none
theorem RD.cons(e:its H k=some xs)(r:Reps K U H xs dx)(g:dx[i]? = some d):∀{o:Option (List D)},RD K U H i ks o->RD K U H i (k::ks) (o.map (d::·))
 |some ds,⟨row,a,b⟩=>let ⟨v,c1,c2⟩:=r.get g; ⟨v::row,⟨xs,e,.inl ⟨v,some row,c1,a,rfl⟩⟩,.cons c2 b⟩
 |none,h=>let ⟨v,c1,_⟩:=r.get g; ⟨xs,e,.inl ⟨v,none,c1,h,rfl⟩⟩
theorem RD.stop(e:its H k=some xs)(r:Reps K U H xs dx)(g:i=dx.length):RD K U H i (k::ks) none:=⟨xs,e,.inr ⟨by rw [g,r.len],rfl⟩⟩
theorem RD.nil:RD K U H i [] (some []):=⟨[],rfl,.nil⟩
theorem rd1{dy:List D}(e:its H k=some ys)(r:Reps K U H ys dy)(h:i<=(dy.map λy=>[y]).length):RD K U H i [k] (dy.map λy=>[y])[i]?:=by
 rw [ax] at h;rw [aN]
 rcases Nat.lt_or_eq_of_le h with h|h
 .rw [ag h];exact RD.cons e r (ag h) RD.nil
 .rw [ba (iJ h.symm)];exact RD.stop e r h
def a67(dx:List D)(dr:List (List D)):List (List D):=(dx.zip dr).map λp=>p.1::p.2
theorem rdz{dx:List D}{dr:List (List D)}(e:its H k=some xs)(r:Reps K U H xs dx)(F:∀i,i<=dr.length->RD K U H i ks dr[i]?)(h:i<=(a67 dx dr).length):RD K U H i (k::ks) (a67 dx dr)[i]?:=by
 simp only [a67,ax,gU] at h;simp only [a67,aN]
 by_cases a:i<dx.length
 .have:=RD.cons e r (ag a) (F i (by omega))
  by_cases b:i<dr.length
  .rw [(dY (z:=(dx[i],dr[i]))).mpr ⟨ag a,ag b⟩]
   rwa [ag b] at this
  .rw [ba (l:=dx.zip dr) (by rw [gU];omega)]
   rwa [ba (by omega)] at this
 .rw [ba (l:=dx.zip dr) (by rw [gU];omega)]
  exact RD.stop e r (by omega)
theorem afh{ks:List Srk}{dr:List (List D)}{ck:Hd->Prop}(F:∀U H h,Gr U0 H0 U H->HRep K U H h->ck h->∀i,i<=dr.length->RD K U H i ks dr[i]?):alr K U0 H0 (ItN ks) ⟨dr.map .tup,ck⟩:=by
 intro U H h g hr c
 have F:=F U H h g hr c;refine ⟨λi d ed=>?_,?_⟩
 .simp only [aN,aQ] at ed;obtain ⟨ds,e,rfl⟩:=ed;have z:=F i (dO (am.mp e).1);rw [e] at z;obtain ⟨row,a,b⟩:=z;refine ⟨⟨row,a⟩,λx H' ⟨row',p,a',hp,e1,e2⟩=>?_⟩
  cases akd a a'
  subst e1 e2;exact ⟨zf hp _,.tup km (b.mono (zf hp _)),hr.aside hp _⟩
 .have z:=F dr.length (aA _);rw [ba (aA _)] at z;show Drk H (dr.map D.tup).length ks none;rw [ax];exact z
theorem ac1(xs ys:List D):(a67 xs (ys.map λy=>[y])).map D.tup=(xs.zip ys).map λp=>.tup [p.1,p.2]:=by
 simp [a67,List.zip_map_right]
theorem ac2:∀(xs ys zs:List D),(a67 xs (a67 ys (zs.map λy=>[y]))).map D.tup=(ah4 xs ys zs).map λp=>.tup [p.1,p.2.1,p.2.2]
 |x::xs,y::ys,z::zs=>ah (D.tup [x,y,z]::·) (ac2 xs ys zs)
 |[],_,_=>rfl
 |_::_,[],_=>rfl
 |_::_,_::_,[]=>rfl
def ZOk(us:List Value):Prop:=checkTypeCall "zip" ⟨us,[]⟩=pure ()/\checkBuiltinCall "zip.__new__" ⟨.type "zip"::us,[]⟩=pure ()/\∀obj,argsOk "object.__init__" ⟨obj::us,[]⟩
theorem b0f:∀us:List Value,us.length=2->ZOk us
 |[_,_],_=>⟨F.typeCall_zip_2 _ _,F.newCall_zip_2 _ _,λobj=>F.args_object_init_3 obj _ _⟩
theorem b1v:∀us:List Value,us.length=3->ZOk us
 |[_,_,_],_=>⟨a8g _ _ _,a9w _ _ _,λobj=>a7t obj _ _ _⟩
noncomputable def azd(n:Nat)(ta:TA):TI:=λZ H R=>ta Z H λvs H1=>∃ks:List Srk,vs=ks.map (·.v)/\ks.length=n+1/\(∀k∈ks,∃xs,its H1 k=some xs)/\R (ItN ks) H1
theorem ake{X:Cx}(hg:Gl X "zip")(hm:X.mg "zip" = none)(hb:bootBuiltins "zip" = some (.type "zip"))(ha:PA X (e1::es) ta)(hz:∀us:List Value,us.length=n+1->ZOk us)(hn:n<10)
  (he:starEach (e1::es) X.env=(false,eval e1 X.env)::starEach es X.env) (hpl:(backTo pos (starEach es X.env)).any (·.1)=false):PI X (.Tuple elts x1 tpos) (.Call (.Name "zip" p) (e1::es) [] pos) (azd n ta):=by
 intro pins s Z H R I h
 refine dk (a2z I hg hm hb ?_ (by decide) (by decide))
 refine bO (L2.thn (ha pos pins s Z H _ I h) ?_) he hpl
 rintro us s1 ⟨vs,H1,I1,r1,q1⟩
 obtain ⟨ks,rfl,l,c,q⟩:=q1;obtain ⟨z1,z2,z3⟩:=hz us (by rw [<-r1.length,ax,l])
 have hl:ks.length<=sizeLine:=by rw [l];exact aW hn (by decide)
 refine ac0 hl z1 z2 z3 I1 r1 c λh' z TI TO L e I2 f hf st hz=>?_;refine iH (s:={s1 with heap:=h' }) hz ?_
 cases L with
 |nil=>rw [<-e] at l;cases l
 |cons r L =>
  obtain ⟨a,b,d,_⟩:=st;refine ⟨z,_,tnN z TI TO (r::L),ItN ((r::L).map (·.k)),H1,rfl,I2,akb f (by rw [<-e,ax] at hl;exact hl),⟨hz,a,d,b⟩,hf,by rw [e];exact q⟩
section
variable{X:Cx}{E:XD}{f g k:SE}
theorem adk(hg:Gl X "zip")(hm:X.mg "zip" = none)(hb:bootBuiltins "zip" = some (.type "zip"))(ha:ME X E e1 f)(hb':ME X E e2 g)
  (h1:starEach [e1,e2] X.env=(false,eval e1 X.env)::starEach [e2] X.env:=by rfl) (h2:starEach [e2] X.env=[(false,eval e2 X.env)]:=by rfl) :
  MI X E (.Tuple elts x1 tpos) (.Call (.Name "zip" p) [e1,e2] [] pos) (ad1 f g):=by
 rintro pins s Z H Rr I ⟨U,τ,h,S,Rh,o⟩
 refine ake hg hm hb (xf ha (xf hb' a3a (by rw [h2];rfl)) h1) b0f (by decide) h1 (by rw [h2];rfl) pins s Z H Rr I ?_
 refine ⟨U,τ,h,S,Rh,dh o λd h1 U1 H1 v g1 r1 hr1 o1=>?_⟩;refine ⟨U1,τ,h1,S.mono g1,hr1,dh o1 λd2 h2 U2 H2 u g2 r2 hr2 o2=>?_⟩;unfold axw at o2
 split at o2
 .rename_i xs c1 ys c2 q1 q2;obtain ⟨k1,rfl,k1c,k1f⟩:=a78 (r1.mono g2) hr2 q1;obtain ⟨k2,rfl,k2c,k2f⟩:=a78 r2 hr2 q2;obtain ⟨vs1,w1,_⟩:=k1f U2 H2 h2 (.refl _ _) hr2 k1c;obtain ⟨vs2,w3,_⟩:=k2f U2 H2 h2 (.refl _ _) hr2 k2c;refine ⟨[k1,k2],rfl,rfl,λk m=>?_,o2 U2 H2 _ (.refl _ _) ?_ hr2⟩
  .simp only [aC,bA,e9] at m
   rcases m with rfl|rfl
   .exact ⟨_,w1⟩
   .exact ⟨_,w3⟩
  .rw [<-ac1];refine afh λU3 H3 h3 g3 hr3 c i hi=>?_;obtain ⟨us1,a1,a2⟩:=k1f U3 H3 h3 g3 hr3 c.1;obtain ⟨us2,a3,a4⟩:=k2f U3 H3 h3 g3 hr3 c.2;exact rdz a1 a2 (λj hj=>rd1 a3 a4 hj) hi
 .exact o2.elim
theorem ao4(hg:Gl X "zip")(hm:X.mg "zip" = none)(hb:bootBuiltins "zip" = some (.type "zip"))(ha:ME X E e1 f)(hb':ME X E e2 g)(hc':ME X E e3 k)
  (h1:starEach [e1,e2,e3] X.env=(false,eval e1 X.env)::starEach [e2,e3] X.env:=by rfl) (h2:starEach [e2,e3] X.env=(false,eval e2 X.env)::starEach [e3] X.env:=by rfl) (h3:starEach [e3] X.env=[(false,eval e3 X.env)]:=by rfl) :
  MI X E (.Tuple elts x1 tpos) (.Call (.Name "zip" p) [e1,e2,e3] [] pos) (ah5 f g k):=by
 rintro pins s Z H Rr I ⟨U,τ,h,S,Rh,o⟩
 refine ake hg hm hb (xf ha (xf hb' (xf hc' a3a (by rw [h3];rfl)) h2) h1) b1v (by decide) h1 (by rw [h2,h3];rfl) pins s Z H Rr I ?_
 refine ⟨U,τ,h,S,Rh,dh o λd h1 U1 H1 v g1 r1 hr1 o1=>?_⟩;refine ⟨U1,τ,h1,S.mono g1,hr1,dh o1 λd2 h2 U2 H2 u g2 r2 hr2 o2=>?_⟩;refine ⟨U2,τ,h2,(S.mono g1).mono g2,hr2,dh o2 λd3 h3 U3 H3 t g3 r3 hr3 o3=>?_⟩;unfold asj at o3
 split at o3
 .rename_i xs c1 ys c2 zs c3 q1 q2 q3;obtain ⟨k1,rfl,k1c,k1f⟩:=a78 ((r1.mono g2).mono g3) hr3 q1;obtain ⟨k2,rfl,k2c,k2f⟩:=a78 (r2.mono g3) hr3 q2;obtain ⟨k3,rfl,k3c,k3f⟩:=a78 r3 hr3 q3;obtain ⟨vs1,w1,_⟩:=k1f U3 H3 h3 (.refl _ _) hr3 k1c;obtain ⟨vs2,w3,_⟩:=k2f U3 H3 h3 (.refl _ _) hr3 k2c;obtain ⟨vs3,w5,_⟩:=k3f U3 H3 h3 (.refl _ _) hr3 k3c;refine ⟨[k1,k2,k3],rfl,rfl,λk m=>?_,o3 U3 H3 _ (.refl _ _) ?_ hr3⟩
  .simp only [aC,bA,e9] at m
   rcases m with rfl|rfl|rfl
   .exact ⟨_,w1⟩
   .exact ⟨_,w3⟩
   .exact ⟨_,w5⟩
  .rw [<-ac2];refine afh λU4 H4 h4 g4 hr4 c i hi=>?_;obtain ⟨us1,a1,a2⟩:=k1f U4 H4 h4 g4 hr4 c.1;obtain ⟨us2,a3,a4⟩:=k2f U4 H4 h4 g4 hr4 c.2.1;obtain ⟨us3,a5,a6⟩:=k3f U4 H4 h4 g4 hr4 c.2.2;exact rdz a1 a2 (λj hj=>rdz a3 a4 (λj hj=>rd1 a5 a6 hj) hj) hi
 .exact o3.elim
theorem ao5(hc:X.calm=true)(hg:Gl X "list")(hm:X.mg "list" = none)(hg2:Gl X "zip")(hm2:X.mg "zip" = none)(hb:bootBuiltins "zip" = some (.type "zip"))(ha:ME X E e1 f)(hb':ME X E e2 g)
  (h1:starEach [e1,e2] X.env=(false,eval e1 X.env)::starEach [e2] X.env:=by rfl) (h2:starEach [e2] X.env=[(false,eval e2 X.env)]:=by rfl)
  (he:starEach [.Call (.Name "zip" p2) [e1,e2] [] pos2] X.env=(false,eval (.Call (.Name "zip" p2) [e1,e2] [] pos2) X.env)::starEach [] X.env:=by rfl) (hpl:(backTo pos (starEach [] X.env)).any (·.1)=false:=by rfl) :
  ME X E (.Call (.Name "list" p) [.Call (.Name "zip" p2) [e1,e2] [] pos2] [] pos) (s2 aka f g):=by
 rintro pins s Z H Q I ⟨U,τ,h,S,Rh,o⟩
 refine dk (a2z I hg hm aqn ?_ (by decide) (by decide))
 refine bO ?_ he hpl;rw [he];show wpAny _ _ (spliced ((false,eval (.Call (.Name "zip" p2) [e1,e2] [] pos2) X.env)::backTo pos (starEach [] X.env))) _ _ s;refine hE ?_;refine dk (a2z I hg2 hm2 hb ?_ (by decide) (by decide))
 refine bO (L2.thn (xf ha (xf hb' a3a (by rw [h2];rfl)) h1 pos2 pins s Z H (λvs H1=>∃k1 k2 U2 h2 xs ys,vs=[Srk.v k1,Srk.v k2]/\(∀k∈[k1,k2],∃xs,its H1 k=some xs)/\HRep X.K U2 H1 h2/\(xs.zip ys).length<=sizeLine/\(∀U' H' a,Gr U2 H1 U' H'->HRep X.K U' H' (h2++[.lst a])->∀i,i<=(a67 xs (ys.map λy=>[y])).length->RD X.K U' H' i [k1,k2] (a67 xs (ys.map λy=>[y]))[i]?) /\
   ∀p H',Gr U2 H1 (U2++[p]) H'->HRep X.K (U2++[p]) H' (h2++[.lst ((a67 xs (ys.map λy=>[y])).map .tup)])->Q (.ref p) H') I ?_) ?_) h1 (by rw [h2];rfl)
 .refine ⟨U,τ,h,S,Rh,dh o λd h1 U1 H1 v g1 r1 hr1 o1=>?_⟩;refine ⟨U1,τ,h1,S.mono g1,hr1,dh o1 λd2 h2 U2 H2 u g2 r2 hr2 o2=>?_⟩;unfold aka at o2
  split at o2
  .rename_i xs c1 ys c2 q1 q2
   split at o2
   .rename_i hl;obtain ⟨k1,rfl,k1c,k1f⟩:=a78 (r1.mono g2) hr2 q1;obtain ⟨k2,rfl,k2c,k2f⟩:=a78 r2 hr2 q2;obtain ⟨vs1,w1,_⟩:=k1f U2 H2 h2 (.refl _ _) hr2 k1c;obtain ⟨vs2,w3,_⟩:=k2f U2 H2 h2 (.refl _ _) hr2 k2c;refine ⟨k1,k2,U2,h2,xs,ys,rfl,λk m=>?_,hr2,ll hl,λU' H' a g' r' i hi=>?_,λp H' g' r'=>?_⟩
    .simp only [aC,bA,e9] at m
     rcases m with rfl|rfl
     .exact ⟨_,w1⟩
     .exact ⟨_,w3⟩
    .obtain ⟨us1,a1,a2⟩:=k1f U' H' _ g' r' (afd q1 _ k1c);obtain ⟨us2,a3,a4⟩:=k2f U' H' _ g' r' (afd q2 _ k2c);exact rdz a1 a2 (λj hj=>rd1 a3 a4 hj) hi
    .rw [ac1] at r';refine o2 _ H' _ g' (.ref ?_) r';rw [aB (by rw [hr2.len];exact aA _),hr2.len];simp
   .exact o2.elim
  .exact o2.elim
 .rintro us s1 ⟨vs,H1,I1,r1,k1,k2,U2,hd,xs,ys,rfl,c,hr,hl,Fs,q⟩
  obtain ⟨z1,z2,z3⟩:=b0f us r1.length.symm;refine ac0 (ks:=[k1,k2]) (by show 2<=sizeLine;decide) z1 z2 z3 I1 r1 c λh' z TI TO L e I2 f hf st hz=>?_
  refine i4 ?_
  cases L with
  |nil=>cases e
  |cons r L =>
   refine ah7 f (I.ok.hd hc) (by have:=ah List.length e;rw [ax] at this;rw [this];show 2<=sizeLine;decide) (by simpa [a67] using hl) I2 hf st hz hr (λU' H' a g' r'=>⟨λi ds ed=>?_,?_⟩) λs' H' I' g r=>⟨.ref _,_,I',rfl,q _ _ g r⟩
   .have:=Fs U' H' a g' r' i (dO (am.mp ed).1)
    rw [ed,<-e] at this;exact this
   .have:=Fs U' H' a g' r' _ (aA _)
    rw [ba (aA _),<-e] at this;exact this
end
end MI
namespace MI
open L2
theorem bj(ha:ME X E a fa)(hb:ME X E b fb)(hp:a95 b:=by exact λ_ _=>rfl):ME X E (.Subscript a b pos) (s2 gIx fa fb):=ar4 ha hb hp
theorem jy(i:Nat)(hN:X.N.Nodup)(he:ME X E e fa)(hi:X.N[i]? = some x:=by rfl)(hx:Loc X.env.scope x:=by first|exact Or.inl rfl|exact Or.inr rfl)(hs:swapsWith e (some (.Name x pos')) pos.line X.env=pure false:=by rfl)(hf:X.fn x=true\/X.env.scope.names.lookup x=some .local:=by first|exact .inl rfl|exact .inr rfl|assumption) :
  MS X E (.Assign [.Name x pos'] e pos) (n6 i fa):=av3 hN hi hx he hs hf
theorem jr{X:Cx}(G:Dn X.prog X.w X.K X.mg X.base k x ps (qd X.K n F) f fd)(hr:Room k' X.A)(hk:k<=k')(ha:MA X X0 (e::es) ka)(hg:Gl X x:=by rfl)
  (hdb:(x == ("__debug__" : Str))=false:=by decide) (he:starEach (e::es) X.env=(false,eval e X.env)::starEach es X.env:=by rfl) (hpl:(backTo pos (starEach es X.env)).any (·.1)=false:=by rfl):ME X X0 (.Call (.Name x p) (e::es) [] pos) (sA (kj false n F) ka):=aeu false G (hr.mono hk) hg ha hdb he hpl
theorem nj(hm:X.mg "len" = none)(ha:MA X E [e] ka)(hg:Gl X "len":=by rfl)(he:starEach [e] X.env=(false,eval e X.env)::starEach [] X.env:=by rfl)(hpl:(backTo pos (starEach [] X.env)).any (·.1)=false:=by rfl):ME X E (.Call (.Name "len" p) [e] [] pos) (sA qu ka) :=
 a4a (L2.CallR.or ab1 ab2) ar5 hg hm auy ha (by decide) (by decide) he hpl
theorem uf(ho:OpR X (compareOp op) r)(hs:a4w X.K g r)(ha:ME X E a fa)(hb:ME X E b fb)(hm:behindInMarks op b=false:=by exact a6m _):MT X E (.Compare a [op] [b] pos) (sT (s2 g fa fb)):=a1e ho hs ha hb hm
theorem m9(hu:X.A.units+64<cLine)(ha:ME X E a fa)(hb:ME X E b fb):MT X E (.Compare a [.Eq] [b] pos) (sT (s2 hEq fa fb)):=a1e (ap5 hu) aiw ha hb (a6m _)
theorem pgn(i:Nat)(hN:N.Nodup:=by decide +kernel)(hi:N[i]? = some x:=by rfl)(hx:∀C fp s H,Loc (cxC X N scope cl C fp s H).env.scope x:=by exact λ_ _ _ _=>Or.inl rfl)(hf:∀C fp s H,(cxC X N scope cl C fp s H).fn x=true\/(cxC X N scope cl C fp s H).env.scope.names.lookup x=some .local:=by exact λ_ _ _ _=>.inr rfl) :
  ∀C fp s H,PG (cxC X N scope cl C fp s H) (.Name x pos) (a1d i):=λC fp s H=>a92 (X:=cxC X N scope cl C fp s H) hN hi (hx C fp s H) (hf C fp s H)
theorem pgm(i:Nat)(hN:N.Nodup:=by decide +kernel)(hi:N[i]? = some x:=by rfl)(hx:Loc (cxC X N scope cl C fp s H).env.scope x:=by exact Or.inl rfl)(hf:(cxC X N scope cl C fp s H).fn x=true\/(cxC X N scope cl C fp s H).env.scope.names.lookup x=some .local:=by exact .inr rfl) :
  PG (cxC X N scope cl C fp s H) (.Name x pos) (a1d i):=a92 (X:=cxC X N scope cl C fp s H) hN hi hx hf
def allP(P:α->Prop):List α->Prop
 |[]=>True
 |a::l=>P a/\allP P l
theorem allP.mem{P:α->Prop}:∀{l:List α},allP P l->∀a∈l,P a
 |b::l,h,a,m=>by
  rcases aC.mp m with rfl|m
  .exact h.1
  .exact h.2.mem a m
theorem a2h{X:Cx}(ts fr:List Str)(ix:List Nat)(clos:closureFor scope X.env=pure cl:=by rfl)(kind:scope.kind=.function:=by rfl)
  (nocell:(scope.names.all λp=>p.2 != .cell)=true:=by rfl) (names:(scope.names.all λp=>p.2 != .local || scope.names.lookup p.1 == some .local)=true:=by rfl) (sub:allP (λp=>X.env.cells.lookup p.1=some p.2) cl:=by repeat' constructor)
  (has:((relabel scope X.env).names.all λp => !(p.2 == .cell || p.2 == .free) || (cl.lookup p.1).isSome)=true:=by rfl) (nofn:(ts.all λy=>(relabel scope X.env).names.lookup y == some .local)=true:=by rfl)
  (len:ix.length=fr.length:=by rfl) (vis:((fr.zip ix).all λp=>X.N[p.2]? == some p.1 && (X.env.kindOf p.1 == some .cell || X.env.kindOf p.1 == some .free) && ((relabel scope X.env).names.lookup p.1 == some .cell || (relabel scope X.env).names.lookup p.1 == some .free))=true:=by rfl) :
  CSc X scope cl ts fr ix:=.of clos kind nocell names sub.mem has nofn len vis
theorem a7u{scope:Scope}(ts:List Str)(kind:scope.kind=.function:=by rfl)(h:∀y∈scope.names,y.2≠.cell/\y.2≠.free:=by decide +kernel)(names:∀y∈scope.names,y.2=.local->scope.names.lookup y.1=some .local:=by decide +kernel)
  (ht:∀y∈ts,scope.names.lookup y=some .local:=by decide +kernel):CSc X scope [] ts [] []:=.noFree kind h names ht
section
variable{α:Type}{us:List α}
theorem len0{P:List α->Prop}(h:us.length=0)(k:P []):P us:=by cases us with|nil=>exact k|cons _ _=>cases h
theorem ah8{P:List α->Prop}(h:us.length=n+1)(k:∀a vs,vs.length=n->P (a::vs)):P us:=by cases us with|nil=>cases h|cons a vs=>exact k a vs (dP h)
theorem b0g{P:List α->Prop}(h:us.length=1)(k:∀a,P [a]):P us:=ah8 h λa _ h=>len0 (P:=λus=>P (a::us)) h (k a)
theorem b0h{P:List α->Prop}(h:us.length=2)(k:∀a b,P [a,b]):P us:=ah8 h λa _ h=>b0g (P:=λus=>P (a::us)) h (k a)
theorem b0i{P:List α->Prop}(h:us.length=3)(k:∀a b c,P [a,b,c]):P us:=ah8 h λa _ h=>b0h (P:=λus=>P (a::us)) h (k a)
theorem b0j{P:List α->Prop}(h:us.length=4)(k:∀a b c d,P [a,b,c,d]):P us:=ah8 h λa _ h=>b0i (P:=λus=>P (a::us)) h (k a)
theorem b0k{P:List α->Prop}(h:us.length=5)(k:∀a b c d e,P [a,b,c,d,e]):P us:=ah8 h λa _ h=>b0j (P:=λus=>P (a::us)) h (k a)
theorem b1w{P:List α->Prop}(h:us.length=6)(k:∀a b c d e f,P [a,b,c,d,e,f]):P us:=ah8 h λa _ h=>b0k (P:=λus=>P (a::us)) h (k a)
end
end MI
namespace K09
open L2 MI
noncomputable def top(i:Nat):Stmt:=PySem.Challenge.pw_nearreach_k09_takings_walked.main.body.getD i (.Pass ⟨0,0,0,0⟩)
structure Nm (mg:Str->Option Value):Prop where
 abs:mg "abs" = none
 bool:mg "bool" = none
 int:mg "int" = none
 isinstance:mg "isinstance" = none
 len:mg "len" = none
 list:mg "list" = none
 min:mg "min" = none
 range:mg "range" = none
 reversed:mg "reversed" = none
 set:mg "set" = none
 sorted:mg "sorted" = none
 str:mg "str" = none
 sum:mg "sum" = none
 tuple:mg "tuple" = none
 zip:mg "zip" = none
section
variable{P:Program}{w:World}{K:PySem.W.Frag}{mg:Str->Option Value}{base:Heap}{f:Addr}
def MD(P:Program)(w:World)(K:PySem.W.Frag)(mg:Str->Option Value)(base:Heap)(f:Addr)(k:Nat)(N:List Str)(x:Str)(t:Stmt)(b:SS):Prop:=∀(cdv:Value) (A:Around) (outer:List Env) (s:Shared) (H:Hp) (E:XK),Room k (A.deeper (PyProof.Rows.envOfC x (dj t) s.heap.objs.size f cdv))->MSs (alo CX0 P w K mg base N x (dj t) f cdv A outer s H E).nox X0 (yw t) b
local macro_rules|`(tactic|walk_at "sc") => `(tactic|exact ⟨rfl,rfl,rfl,by decide +kernel,rfl,by decide +kernel,by decide +kernel⟩)
theorem b0l:FnScope ["shape"] ["shape"] (dj (top 1)):=by walk_at "sc"
theorem m_0:MD P w K mg base f k ["shape"] "inner" (top 1) (ENG.a9u):=λcdv A outer s H E hr =>
 have SC:=b0l
 (ak (mj (m9 hr.u (bj (bf 0) au) je)
 (bx (ie (qj aq)))
 iw)
 (ak (mj (PW.pt (a71 (m9 hr.u (bj (bf 0) au) je) (a70 (m9 hr.u (bj (bf 0) au) je))))
 (bx (ie (bj (bf 0) au)))
 iw)
 (bx (ie (qj (aa (bj (bf 0) au) aq))))))
theorem b0m:FnScope ["shape","word","under","rows","row"] ["shape","word"] (dj (top 3)):=by walk_at "sc"
theorem m_1(M:Nm mg)(D_1:Dn P w K mg base k_1 "ending_tree" ["shape","word"] (qd K 2 F_1) a_1 d_1)(h_1:k_1<=k)(D_2:Dn P w K mg base k_2 "ends_from" ["shape","rows","word","at"] (qd K 4 F_2) a_2 d_2)(h_2:k_2<=k)(D_0:Dn P w K mg base k_0 "inner" ["shape"] (qd K 1 F_0) a_0 d_0)(h_0:k_0<=k):MD P w K mg base f k ["shape","word","under","rows","row"] "ending_tree" (top 3) (ENG.a00 F_1 F_2 F_0):=λcdv A outer s H E hr =>
 have SC:=b0m
 (ak (xn (i:=2) SC.nd rfl (Or.inl rfl) rfl (a2h ["part"] ["word"] [1]) (uq (jr D_0 hr h_0 (aa (bf 0) aq))) (pgn 0) vh (λ_ _ _ _=>(jr D_1 hr h_1 (aa (bf 0) (aa (bf 1) aq)))))
 (ak (jy 3 SC.nd (yu (yg rfl (a7u ["row","deeper"]) (uq (bf 2)) (λ_ _ _ _=>a6l rfl (ud (pgm 0) (ud (pgm 1) a3h))) abe (λ_ _ _ _=>(bf 0)))))
 (ak (xn (i:=4) SC.nd rfl (Or.inl rfl) rfl (a2h ["at"] ["shape","word","rows"] [0,1,3]) (wg rfl M.range (aa (jq (nj M.len (aa (bf 1) aq)) au) aq)) (pgn 0) vh (λ_ _ _ _=>(a1f (L2.CallR.or uv (wy rfl)) a0o rfl M.tuple zm (aa (jr D_2 hr h_2 (aa (bf 1) (aa (bf 3) (aa (bf 2) (aa (bf 0) aq))))) aq))))
 (bx (ie (qj (aa (a1f (L2.CallR.or uv (wy rfl)) a0o rfl M.tuple zm (aa (bf 4) aq)) (aa (bf 2) aq))))))))
theorem b0n:FnScope ["shape","rows","word","at"] ["shape","rows","word","at"] (dj (top 4)):=by walk_at "sc"
theorem m_2(M:Nm mg)(D_4:Dn P w K mg base k_4 "ends_in_turn" ["rows","at"] (qd K 2 F_4) a_4 d_4)(h_4:k_4<=k)(D_5:Dn P w K mg base k_5 "ends_of_many" ["row","at"] (qd K 2 F_5) a_5 d_5)(h_5:k_5<=k)(D_6:Dn P w K mg base k_6 "ends_of_times" ["row","at","low","high"] (qd K 4 F_6) a_6 d_6)(h_6:k_6<=k):MD P w K mg base f k ["shape","rows","word","at"] "ends_from" (top 4) (ENG.a1j F_4 F_5 F_6):=λcdv A outer s H E hr =>
 have SC:=b0n
 (ak (mj (m9 hr.u (bj (bf 0) au) je)
 (bx (ie (aox (PW.pt (a5r (uf (a89.or uy) a3b (bf 3) (nj M.len (aa (bf 2) aq))) (a3n (a1e (a4y.or a0m) a5a (bj (bf 2) (bf 3)) (bj (bf 0) au) (by with_unfolding_all rfl))))) (o8 (aa (jq (bf 3) au) aq)) (o8 aq))))
 iw)
 (ak (mj (m9 hr.u (bj (bf 0) au) je)
 (bx (ie (jr D_4 hr h_4 (aa (bf 1) (aa (bf 3) aq)))))
 iw)
 (ak (mj (m9 hr.u (bj (bf 0) au) je)
 (bx (ie (ajr rfl M.sorted rfl (a2h ["row","end"] ["at"] [3]) (uq (bf 1)) (pgn 0) (λ_ _ _ _=>(uq (bj (bf 0) (bf 2)))) (pgn 1) (λ_ _ _ _=>(bf 1)))))
 iw)
 (ak (mj (m9 hr.u (bj (bf 0) au) je)
 (bx (ie (jr D_5 hr h_5 (aa (bj (bf 1) au) (aa (bf 3) aq)))))
 iw)
 (bx (ie (jr D_6 hr h_6 (aa (bj (bf 1) au) (aa (bf 3) (aa (bj (bf 0) au) (aa (bj (bf 0) au) aq)))))))))))
theorem b0o:FnScope ["row","places"] ["row","places"] (dj (top 5)):=by walk_at "sc"
theorem m_3(M:Nm mg):MD P w K mg base f k ["row","places"] "stepped" (top 5) (ENG.abx):=λcdv A outer s H E hr =>
 have SC:=b0o
 (bx (ie (ajr rfl M.sorted rfl (a2h ["at","end"] ["row"] [0]) (uq (bf 1)) (pgn 0) (λ_ _ _ _=>(uq (bj (bf 2) (bf 0)))) (pgn 1) (λ_ _ _ _=>(bf 1)))))
theorem b0p:FnScope ["rows","at","places","row"] ["rows","at"] (dj (top 6)):=by walk_at "sc"
theorem m_4(D_3:Dn P w K mg base k_3 "stepped" ["row","places"] (qd K 2 F_3) a_3 d_3)(h_3:k_3<=k):MD P w K mg base f k ["rows","at","places","row"] "ends_in_turn" (top 6) (ENG.yo F_3):=λcdv A outer s H E hr =>
 have SC:=b0p
 (ak (jy 2 SC.nd (yu (o8 (aa (bf 1) aq))))
 (ak (a0n c6 rfl (uq (bf 0)) (mq (i:=3) SC.nd rfl (Or.inl rfl)) (bx (jy 2 SC.nd (jr D_3 hr h_3 (aa (bf 3) (aa (bf 2) aq))))))
 (bx (ie (bf 2)))))
theorem b0q:FnScope ["row","at","places","more"] ["row","at"] (dj (top 7)):=by walk_at "sc"
theorem m_5(M:Nm mg)(D_3:Dn P w K mg base k_3 "stepped" ["row","places"] (qd K 2 F_3) a_3 d_3)(h_3:k_3<=k):MD P w K mg base f k ["row","at","places","more"] "ends_of_many" (top 7) (ENG.yp F_3):=λcdv A outer s H E hr =>
 have SC:=b0q
 (ak (jy 2 SC.nd (yu (o8 aq)))
 (ak (jy 3 SC.nd (yu (o8 (aa (bf 1) aq))))
 (ak (amc 100000 c6 (uf ahw abf (nj M.len (aa (bf 3) aq)) (nj M.len (aa (bf 2) aq))) (ak (jy 2 SC.nd (bf 3))
 (bx (jy 3 SC.nd (yu (ajx rfl M.sorted rfl M.set rfl (bf 2) (jr D_3 hr h_3 (aa (bf 0) (aa (bf 2) aq)))))))))
 (bx (ie (bf 2))))))
theorem b0r:FnScope ["row","at","low","high","found","places","count"] ["row","at","low","high"] (dj (top 8)):=by walk_at "sc"
theorem m_6(M:Nm mg)(D_3:Dn P w K mg base k_3 "stepped" ["row","places"] (qd K 2 F_3) a_3 d_3)(h_3:k_3<=k):MD P w K mg base f k ["row","at","low","high","found","places","count"] "ends_of_times" (top 8) (ENG.xr F_3):=λcdv A outer s H E hr =>
 have SC:=b0r
 (ak (jy 4 SC.nd (o8 aq))
 (ak (jy 5 SC.nd (yu (o8 (aa (bf 1) aq))))
 (ak (a0n c6 rfl (wg rfl M.range (aa (jq (bf 3) au) aq)) (mq (i:=6) SC.nd rfl (Or.inl rfl)) (ak (mj (uf aq8 aim (bf 6) (bf 2))
 (bx (acu (amk PySem.F.slot_list_extend PySem.F.type_list_extend (MtR.or agk agd) amy (bf 4) (aa (bf 5) aq))))
 iw)
 (bx (jy 5 SC.nd (jr D_3 hr h_3 (aa (bf 0) (aa (bf 5) aq)))))))
 (bx (ie (a7q rfl M.sorted rfl M.set rfl (bf 4)))))))
theorem b0s:FnScope ["shape","word","tree","row","under"] ["shape","word"] (dj (top 10)):=by walk_at "sc"
theorem m_7(M:Nm mg)(D_1:Dn P w K mg base k_1 "ending_tree" ["shape","word"] (qd K 2 F_1) a_1 d_1)(h_1:k_1<=k)(D_8:Dn P w K mg base k_8 "paper_of" ["shape","tree","word","stretch"] (qd K 4 F_8) a_8 d_8)(h_8:k_8<=k):MD P w K mg base f k ["shape","word","tree","row","under"] "taking" (top 10) (a6e F_1 F_8):=λcdv A outer s H E hr =>
 have SC:=b0s
 (ak (jy 2 SC.nd (jr D_1 hr h_1 (aa (bf 0) (aa (bf 1) aq))))
 (ak (a8n (bf 2) (a73 rfl (ue (mq (i:=3) SC.nd rfl (Or.inl rfl)) (ue (mq (i:=4) SC.nd rfl (Or.inl rfl)) a3q))))
 (ak (mj (a1e (a4z.or a1x) acx (nj M.len (aa (bf 1) aq)) (bj (bf 3) au) (by with_unfolding_all rfl))
 (bx (ie zg))
 iw)
 (bx (ie (jr D_8 hr h_8 (aa (bf 0) (aa (bf 2) (aa (bf 1) (aa (qj (aa au (aa (nj M.len (aa (bf 1) aq)) aq))) aq))))))))))
theorem b0t:FnScope ["shape","tree","word","stretch","row","under","start","end","ends","number","low","high"] ["shape","tree","word","stretch"] (dj (top 11)):=by walk_at "sc"
theorem m_8(D_8:Dn P w K mg base k_8 "paper_of" ["shape","tree","word","stretch"] (qd K 4 F_8) a_8 d_8)(h_8:k_8<=k)(D_9:Dn P w K mg base k_9 "papers_again" ["part","tree","word","stretch","counts"] (qd K 5 F_9) a_9 d_9)(h_9:k_9<=k)(D_10:Dn P w K mg base k_10 "papers_in_turn" ["parts","trees","word","stretch"] (qd K 4 F_10) a_10 d_10)(h_10:k_10<=k):MD P w K mg base f k ["shape","tree","word","stretch","row","under","start","end","ends","number","low","high"] "paper_of" (top 11) (a2r F_8 F_9 F_10):=λcdv A outer s H E hr =>
 have SC:=b0t
 (ak (a8n (bf 1) (a73 rfl (ue (mq (i:=4) SC.nd rfl (Or.inl rfl)) (ue (mq (i:=5) SC.nd rfl (Or.inl rfl)) a3q))))
 (ak (a8n (bf 3) (a73 rfl (ue (mq (i:=6) SC.nd rfl (Or.inr rfl)) (ue (mq (i:=7) SC.nd rfl (Or.inr rfl)) a3q))))
 (ak (mj (m9 hr.u (bj (bf 0) au) je)
 (bx (ie (qj (aa je (aa (bj (bf 2) (bf 6)) aq)))))
 iw)
 (ak (mj (m9 hr.u (bj (bf 0) au) je)
 (ak (xn (i:=8) SC.nd rfl (Or.inl rfl) rfl (a2h ["rows","deeper"] ["start","end"] [6,7]) (uq (bf 5)) (λ_ _ _ _=>a6l rfl (ud (pgm 0) (ud (pgm 1) a3h))) abe (λ_ _ _ _=>(a3m (a4y.or a0m) a5a (bf 3) (bj (bf 0) (bf 2)) (by with_unfolding_all rfl))))
 (ak (jy 9 SC.nd (amk PySem.F.slot_list_index PySem.F.type_list_index ak3 ah1 (bf 8) (aa ayz aq)))
 (bx (ie (qj (aa je (aa (bf 9) (aa (jr D_8 hr h_8 (aa (bj (bj (bf 0) au) (bf 9)) (aa (bj (bf 5) (bf 9)) (aa (bf 2) (aa (bf 3) aq))))) aq))))))))
 iw)
 (ak (mj (m9 hr.u (bj (bf 0) au) je)
 (bx (ie (qj (aa je (aa (jr D_10 hr h_10 (aa (bj (bf 0) au) (aa (bf 5) (aa (bf 2) (aa (bf 3) aq))))) aq)))))
 iw)
 (ak (a8n (aox (m9 hr.u (bj (bf 0) au) je) (qj (aa au (aa (a74 (bf 7) (bf 6)) aq))) (qj (aa (bj (bf 0) au) (aa (bj (bf 0) au) aq)))) (a73 rfl (ue (mq (i:=10) SC.nd rfl (Or.inl rfl)) (ue (mq (i:=11) SC.nd rfl (Or.inl rfl)) a3q))))
 (bx (ie (qj (aa (bj (bf 0) au) (aa (jr D_9 hr h_9 (aa (bj (bf 0) au) (aa (bj (bf 5) au) (aa (bf 2) (aa (bf 3) (aa (qj (aa (bf 10) (aa (bf 11) aq))) aq)))))) aq)))))))))))
theorem b0u:FnScope ["part","tree","word","stretch","counts","low","high","count","papers"] ["part","tree","word","stretch","counts"] (dj (top 12)):=by walk_at "sc"
theorem m_9(M:Nm mg)(D_10:Dn P w K mg base k_10 "papers_in_turn" ["parts","trees","word","stretch"] (qd K 4 F_10) a_10 d_10)(h_10:k_10<=k):MD P w K mg base f k ["part","tree","word","stretch","counts","low","high","count","papers"] "papers_again" (top 12) (yt F_10):=λcdv A outer s H E hr =>
 have SC:=b0u
 (ak (a8n (bf 4) (a73 rfl (ue (mq (i:=5) SC.nd rfl (Or.inl rfl)) (ue (mq (i:=6) SC.nd rfl (Or.inl rfl)) a3q))))
 (ak (a0n c6 rfl (aqw rfl M.range (aa (bf 5) (aa (jq (bf 6) au) aq))) (mq (i:=7) SC.nd rfl (Or.inl rfl)) (ak (jy 8 SC.nd (jr D_10 hr h_10 (aa (yu (a3s (yu (o8 (aa (bf 0) aq))) (bf 7))) (aa (yu (a3s (yu (o8 (aa (bf 1) aq))) (bf 7))) (aa (bf 2) (aa (bf 3) aq))))))
 (bx (mj (uf (aq9.or acq) aiq (bf 8) zg)
 (bx (ie (bf 8)))
 iw))))
 (bx az5)))
theorem awd:FnScope ["parts","trees","word","stretch","start","end","places","stretches"] ["parts","trees","word","stretch"] (dj (top 13)):=by walk_at "sc"
theorem b1x(M:Nm mg)(D_11:Dn P w K mg base k_11 "chain" ["rows","start","end"] (qd K 3 F_11) a_11 d_11)(h_11:k_11<=k)(D_8:Dn P w K mg base k_8 "paper_of" ["shape","tree","word","stretch"] (qd K 4 F_8) a_8 d_8)(h_8:k_8<=k):MD P w K mg base f k ["parts","trees","word","stretch","start","end","places","stretches"] "papers_in_turn" (top 13) (vz F_11 F_8):=λcdv A outer s H E hr =>
 have SC:=awd
 (ak (a8n (bf 3) (a73 rfl (ue (mq (i:=4) SC.nd rfl (Or.inl rfl)) (ue (mq (i:=5) SC.nd rfl (Or.inl rfl)) a3q))))
 (ak (jy 6 SC.nd (jr D_11 hr h_11 (aa (yu (yg rfl (a7u ["row","under"]) (uq (bf 1)) (λ_ _ _ _=>a6l rfl (ud (pgm 0) (ud (pgm 1) a3h))) abe (λ_ _ _ _=>(bf 0)))) (aa (bf 4) (aa (bf 5) aq)))))
 (ak (mj (uf (ahy.or a98) aip (bf 6) zg)
 (bx (ie zg))
 iw)
 (ak (jy 7 SC.nd (yu (ao5 rfl rfl M.list rfl M.zip abh (bf 6) (yu (rm (bf 6) (wj au) yz)))))
 (bx (ie (a1f (L2.CallR.or uv (wy rfl)) a0o rfl M.tuple zm (aa (yu (yg rfl (a2h ["part","tree","piece"] ["word"] [2]) (ao4 rfl M.zip abh (bf 0) (bf 1) (bf 7)) (λ_ _ _ _=>a6l rfl (ud (pgm 0) (ud (pgm 1) (ud (pgm 2) a3h)))) ame (λ_ _ _ _=>(jr D_8 hr h_8 (aa (bf 0) (aa (bf 1) (aa (bf 3) (aa (bf 2) aq)))))))) aq))))))))
theorem awe:FnScope ["rows","start","end","layers","row","places","layer","fitting"] ["rows","start","end"] (dj (top 14)):=by walk_at "sc"
theorem b1y(M:Nm mg)(D_3:Dn P w K mg base k_3 "stepped" ["row","places"] (qd K 2 F_3) a_3 d_3)(h_3:k_3<=k):MD P w K mg base f k ["rows","start","end","layers","row","places","layer","fitting"] "chain" (top 14) (a9x F_3):=λcdv A outer s H E hr =>
 have SC:=awe
 (ak (jy 3 SC.nd (o8 (aa (yu (o8 (aa (bf 1) aq))) aq)))
 (ak (a0n c6 rfl (uq (bf 0)) (mq (i:=4) SC.nd rfl (Or.inr rfl)) (bx (acu (amk ii ij ab3 aiu (bf 3) (aa (jr D_3 hr h_3 (aa (bf 4) (aa (bj (bf 3) (a76 au)) aq))) aq)))))
 (ak (mj (a1e (a4z.or a1x) acx (bf 2) (bj (bf 3) (a76 au)) (by with_unfolding_all rfl))
 (bx (ie zg))
 iw)
 (ak (jy 5 SC.nd (o8 (aa (bf 2) aq)))
 (ak (a0n c6 rfl (adk rfl M.zip abh (yu (a9v (bf 0) yz (a76 au))) (yu (a9v (bf 3) (wj (a76 au)) (a76 au)))) (a73 rfl (ue (mq (i:=4) SC.nd rfl (Or.inr rfl)) (ue (mq (i:=6) SC.nd rfl (Or.inl rfl)) a3q))) (ak (ams (i:=7) SC.nd rfl (Or.inl rfl) rfl (a2h ["at"] ["row","places"] [4,5]) (uq (bf 6)) (pgn 0) vh (λ_ _ _ _=>(bf 0)) (λ_ _ _ _=>(a1e (a4y.or a0m) a5a (bj (bf 2) (a76 au)) (bj (bf 1) (bf 0)) (by with_unfolding_all rfl))))
 (bx (acu (amk ii ij ab3 aiu (bf 5) (aa (bj (bf 7) au) aq))))))
 (bx (ie (a9v (bf 5) yz (a76 au)))))))))
theorem awf:FnScope ["paper"] ["paper"] (dj (top 15)):=by walk_at "sc"
theorem b1z(D_12:Dn P w K mg base k_12 "word_of" ["paper"] (qd K 1 F_12) a_12 ay8)(h_12:k_12<=k):MD P w K mg base f k ["paper"] "word_of" (top 15) (a4m F_12):=λcdv A outer s H E hr =>
 have SC:=awf
 (ak (mj (m9 hr.u (bj (bf 0) au) je)
 (bx (ie (bj (bf 0) au)))
 iw)
 (ak (mj (m9 hr.u (bj (bf 0) au) je)
 (bx (ie (jr D_12 hr h_12 (aa (bj (bf 0) au) aq))))
 iw)
 (bx (ie (aiv dU dW a6x a4d je (aa (yu (yg rfl (a7u ["inside"]) (uq (bj (bf 0) au)) (pgn 0) vh (λ_ _ _ _=>(jr D_12 hr h_12 (aa (bf 0) aq))))) aq))))))
theorem awg:FnScope ["_law_script"] ["_law_script"] (dj (top 17)):=by walk_at "sc"
theorem b20:MD P w K mg base f k ["_law_script"] "_law_pen" (top 17) (PN.a4f):=λcdv A outer s H E hr =>
 have SC:=awg
 (bx (ie (o8 (aa (yu (rm (bf 0) yz (wj au))) (aa au (aa au aq))))))
theorem awh:FnScope ["_law_pen_here","_law_many","_law_found","_law_at","_law_cell","_law_great","_law_number_here"] ["_law_pen_here","_law_many"] (dj (top 18)):=by walk_at "sc"
theorem b21(M:Nm mg):MD P w K mg base f k ["_law_pen_here","_law_many","_law_found","_law_at","_law_cell","_law_great","_law_number_here"] "_law_take" (top 18) (PN.a5e):=λcdv A outer s H E hr =>
 have SC:=awh
 (ak (mj (uf ahw abf (bj (bf 0) au) au)
 (ak (jy 2 SC.nd (a75 (bj (bf 0) au) (bf 1)))
 (ak (a72 (aik (bj (bf 0) au) (bf 1)) (bf 0) au)
 (bx (ie (bf 2)))))
 iw)
 (ak (jy 3 SC.nd (bj (bf 0) au))
 (ak (a72 (jq (bf 3) au) (bf 0) au)
 (ak (jy 4 SC.nd au)
 (ak (mj (uf ahw abf (nj M.len (aa (bj (bf 0) au) aq)) au)
 (bx (jy 4 SC.nd (bj (bj (bf 0) au) (a75 (bf 3) (nj M.len (aa (bj (bf 0) au) aq))))))
 iw)
 (ak (mj (PW.pt (a5r (uf (a89.or uy) a3b (bf 3) (nj M.len (aa (bj (bf 0) au) aq))) (a3n (uf aq8 aim (a4a ae7 ais rfl M.abs aow (aa (bf 4) aq)) (ap1 au au)))))
 (ak (jy 5 SC.nd (jq (a3s au (a4a ae7 ais rfl M.abs aow (aa (bf 4) aq))) (a1f a6o acy rfl M.int aed (aa (a3m (a89.or uy) a3b (bf 4) au (a6m _)) aq))))
 (ak (a72 (aik (bf 5) (bf 1)) (bf 0) au)
 (bx (ie (a75 (bf 5) (bf 1))))))
 iw)
 (ak (jy 6 SC.nd (a75 (ap1 (jq (jq (a75 (bf 4) au) (a3s au (bf 3))) au) au) au))
 (ak (jy 6 SC.nd (a75 (jq (jq (a3s (bf 6) (bf 6)) (a3s au (bf 6))) (bf 3)) au))
 (bx (ie (a75 (aik (bf 6) au) (bf 1))))))))))))
theorem awi:FnScope ["_law_some_here"] [] (dj (top 19)):=by walk_at "sc"
theorem b22:MD P w K mg base f k ["_law_some_here"] "_law_signs" (top 19) (PN.a06):=λcdv A outer s H E hr =>
 have SC:=awi
 (ak (jy 0 SC.nd je)
 (bx (ie (jq (bf 0) je))))
theorem awj:FnScope ["_law_pen_here","_law_rest","_law_most","_law_found","_law_k","_law_at"] ["_law_pen_here","_law_rest","_law_most"] (dj (top 20)):=by walk_at "sc"
theorem b23(M:Nm mg)(D_14:Dn P w K mg base k_14 "_law_take" ["_law_pen_here","_law_many"] (qd K 2 F_14) a_14 d_14)(h_14:k_14<=k):MD P w K mg base f k ["_law_pen_here","_law_rest","_law_most","_law_found","_law_k","_law_at"] "_law_some" (top 20) (PN.a5f F_14):=λcdv A outer s H E hr =>
 have SC:=awj
 (ak (jy 3 SC.nd je)
 (ak (a0n c6 rfl (wg rfl M.range (aa (jq au (jr D_14 hr h_14 (aa (bf 0) (aa (bf 2) aq)))) aq)) (mq (i:=4) SC.nd rfl (Or.inl rfl)) (ak (jy 5 SC.nd (jr D_14 hr h_14 (aa (bf 0) (aa (nj M.len (aa (bf 1) aq)) aq))))
 (ak (jy 3 SC.nd (jq (bf 3) (bj (bf 1) (bf 5))))
 (bx (jy 1 SC.nd (jq (rm (bf 1) yz (wj (bf 5))) (rm (bf 1) (wj (jq (bf 5) au)) yz)))))))
 (bx (ie (bf 3)))))
theorem awk:FnScope ["_law_pen_here","_law_purse","_law_deep","_law_tongue","_law_road","_law_part","_law_low","_law_size","_law_parts"] ["_law_pen_here","_law_purse","_law_deep","_law_tongue"] (dj (top 21)):=by walk_at "sc"
theorem b24(M:Nm mg)(D_17:Dn P w K mg base k_17 "_law_shape" ["_law_pen_here","_law_purse","_law_deep","_law_tongue"] (qd K 4 F_17) a_17 azu)(h_17:k_17<=k)(D_16:Dn P w K mg base k_16 "_law_some" ["_law_pen_here","_law_rest","_law_most"] (qd K 3 F_16) a_16 d_16)(h_16:k_16<=k)(D_14:Dn P w K mg base k_14 "_law_take" ["_law_pen_here","_law_many"] (qd K 2 F_14) a_14 d_14)(h_14:k_14<=k):MD P w K mg base f k ["_law_pen_here","_law_purse","_law_deep","_law_tongue","_law_road","_law_part","_law_low","_law_size","_law_parts"] "_law_shape" (top 21) (SHD.a07 F_17 F_16 F_14):=λcdv A outer s H E hr =>
 have SC:=awk
 (ak (jy 4 SC.nd (jr D_14 hr h_14 (aa (bf 0) (aa au aq))))
 (ak (mj (PW.pt (a5r (m9 hr.u (bf 2) au) (a3n (uf (a89.or uy) a3b (bf 4) au))))
 (bx (jy 4 SC.nd (jq (bf 4) au)))
 iw)
 (ak (mj (PW.pt (a5r (m9 hr.u (bf 4) au) (a3n (m9 hr.u (jr D_14 hr h_14 (aa (bf 0) (aa au aq))) au))))
 (bx (ie (qj (aa je (aa (qj aq) aq)))))
 iw)
 (ak (mj (PW.pt (a71 (m9 hr.u (bf 2) au) (a71 (uf (a89.or uy) a3b (bj (bf 1) au) au) (a70 (uf (a89.or uy) a3b (bf 4) au)))))
 (bx (ie (qj (aa je (aa (jr D_16 hr h_16 (aa (bf 0) (aa (bf 3) (aa (nj M.len (aa (bf 3) aq)) aq)))) aq)))))
 iw)
 (ak (mj (uf (a89.or uy) a3b (bf 4) au)
 (ak (a72 (a74 (bj (bf 1) au) au) (bf 1) au)
 (ak (jy 5 SC.nd (jr D_17 hr h_17 (aa (bf 0) (aa (bf 1) (aa (a74 (bf 2) au) (aa (bf 3) aq))))))
 (ak (mj (m9 hr.u (bf 4) au)
 (bx (ie (qj (aa je (aa (bf 5) aq)))))
 iw)
 (ak (jy 6 SC.nd (jr D_14 hr h_14 (aa (bf 0) (aa au aq))))
 (bx (ie (qj (aa je (aa (bf 5) (aa (bf 6) (aa (jq (bf 6) (jr D_14 hr h_14 (aa (bf 0) (aa (a74 au (bf 6)) aq)))) aq)))))))))))
 iw)
 (ak (jy 7 SC.nd (a4a (ahz rfl) amj rfl M.min avi (aa (bj (bf 1) au) (aa (jq au (jr D_14 hr h_14 (aa (bf 0) (aa (bj (yu (o8 (aa au (aa au (aa au aq))))) (jr D_14 hr h_14 (aa (bf 0) (aa au aq)))) aq)))) aq))))
 (ak (a72 (a74 (bj (bf 1) au) (bf 7)) (bf 1) au)
 (ak (jy 8 SC.nd (a1f (L2.CallR.or uv (wy rfl)) a0o rfl M.tuple zm (aa (yu (yg rfl (a2h ["_law_k"] ["_law_pen_here","_law_purse","_law_deep","_law_tongue"] [0,1,2,3]) (wg rfl M.range (aa (bf 7) aq)) (pgn 0) vh (λ_ _ _ _=>(jr D_17 hr h_17 (aa (bf 1) (aa (bf 2) (aa (a74 (bf 3) au) (aa (bf 4) aq)))))))) aq)))
 (bx (ie (qj (aa (bj (yu (o8 (aa je (aa je aq)))) (a1f a6o acy rfl M.int aed (aa (a3m ahw abf (bf 4) au (a6m _)) aq))) (aa (bf 8) aq)))))))))))))
theorem awl:FnScope ["_law_shape_here"] ["_law_shape_here"] (dj (top 22)):=by walk_at "sc"
theorem b28:MD P w K mg base f k ["_law_shape_here"] "_law_inner" (top 22) (ENG.a1k):=λcdv A outer s H E hr =>
 have SC:=awl
 (ak (mj (m9 hr.u (bj (bf 0) au) je)
 (bx (ie az4))
 iw)
 (ak (mj (PW.pt (a71 (m9 hr.u (bj (bf 0) au) je) (a70 (m9 hr.u (bj (bf 0) au) je))))
 (bx (ie (bj (bf 0) au)))
 iw)
 (bx (ie (qj (aa (bj (bf 0) au) aq))))))
theorem awm:FnScope ["_law_pen_here","_law_tongue","_law_most","_law_size"] ["_law_pen_here","_law_tongue","_law_most"] (dj (top 23)):=by walk_at "sc"
theorem b2a(M:Nm mg)(D_14:Dn P w K mg base k_14 "_law_take" ["_law_pen_here","_law_many"] (qd K 2 F_14) a_14 d_14)(h_14:k_14<=k):MD P w K mg base f k ["_law_pen_here","_law_tongue","_law_most","_law_size"] "_law_word" (top 23) (ENG.a2q F_14):=λcdv A outer s H E hr =>
 have SC:=awm
 (ak (jy 3 SC.nd (jr D_14 hr h_14 (aa (bf 0) (aa (jq (bf 2) au) aq))))
 (bx (ie (aiv dU dW a6x a4d je (aa (yu (yg rfl (a2h ["_law_k"] ["_law_pen_here","_law_tongue"] [0,1]) (wg rfl M.range (aa (bf 3) aq)) (pgn 0) vh (λ_ _ _ _=>(bj (bf 2) (jr D_14 hr h_14 (aa (bf 1) (aa (nj M.len (aa (bf 2) aq)) aq))))))) aq)))))
theorem awn:FnScope ["_law_ends","_law_rows","_law_found","_law_at"] ["_law_ends","_law_rows"] (dj (top 24)):=by walk_at "sc"
theorem b2b(M:Nm mg):MD P w K mg base f k ["_law_ends","_law_rows","_law_found","_law_at"] "_law_led" (top 24) (ENG.a4j):=λcdv A outer s H E hr =>
 have SC:=awn
 (ak (jy 2 SC.nd (yu (o8 aq)))
 (ak (a0n c6 rfl (uq (bf 0)) (mq (i:=3) SC.nd rfl (Or.inl rfl)) (bx (jy 2 SC.nd (yu (jq (bf 2) (bj (bf 1) (bf 3)))))))
 (bx (ie (a7q rfl M.sorted rfl M.set rfl (bf 2))))))
theorem awo:FnScope ["_law_rows","_law_found","_law_at","_law_end"] ["_law_rows"] (dj (top 25)):=by walk_at "sc"
theorem b2c(M:Nm mg):MD P w K mg base f k ["_law_rows","_law_found","_law_at","_law_end"] "_law_again" (top 25) (ENG.a1m):=λcdv A outer s H E hr =>
 have SC:=awo
 (ak (ard (i:=1) SC.nd rfl (Or.inl rfl) rfl (a7u ["_law_at"]) (wg rfl M.range (aa (nj M.len (aa (bf 0) aq)) aq)) (pgn 0) vh (λ_ _ _ _=>(yu (o8 (aa (bf 0) aq)))))
 (ak (a0n c6 rfl (aw4 rfl M.reversed rfl M.range (aa (nj M.len (aa (bf 0) aq)) aq)) (mq (i:=2) SC.nd rfl (Or.inl rfl)) (ak (a0n c6 rfl (uq (bj (bf 0) (bf 2))) (mq (i:=3) SC.nd rfl (Or.inl rfl)) (bx (mj (uf ahw abf (bf 3) (bf 2))
 (bx (a72 (yu (jq (bj (bf 1) (bf 2)) (bj (bf 1) (bf 3)))) (bf 1) (bf 2)))
 iw)))
 (bx (a72 (yu (a7q rfl M.sorted rfl M.set rfl (bj (bf 1) (bf 2)))) (bf 1) (bf 2)))))
 (bx (ie (bf 1)))))
theorem awp:FnScope ["_law_rows","_law_low","_law_high","_law_now","_law_found","_law_many"] ["_law_rows","_law_low","_law_high"] (dj (top 26)):=by walk_at "sc"
theorem b2d(M:Nm mg)(D_20:Dn P w K mg base k_20 "_law_led" ["_law_ends","_law_rows"] (qd K 2 F_20) a_20 d_20)(h_20:k_20<=k):MD P w K mg base f k ["_law_rows","_law_low","_law_high","_law_now","_law_found","_law_many"] "_law_times" (top 26) (ENG.a1n F_20):=λcdv A outer s H E hr =>
 have SC:=awp
 (ak (xn (i:=3) SC.nd rfl (Or.inl rfl) rfl (a7u ["_law_at"]) (wg rfl M.range (aa (nj M.len (aa (bf 0) aq)) aq)) (pgn 0) vh (λ_ _ _ _=>(yu (o8 (aa (bf 0) aq)))))
 (ak (xn (i:=4) SC.nd rfl (Or.inl rfl) rfl (a7u ["_law_at"]) (wg rfl M.range (aa (nj M.len (aa (bf 0) aq)) aq)) (pgn 0) vh (λ_ _ _ _=>(yu (o8 aq))))
 (ak (a0n c6 rfl (wg rfl M.range (aa (jq (bf 2) au) aq)) (mq (i:=5) SC.nd rfl (Or.inl rfl)) (ak (mj (uf aq8 aim (bf 5) (bf 1))
 (bx (xn (i:=4) SC.nd rfl (Or.inl rfl) rfl (a7u ["_law_old","_law_ends"]) (adk rfl M.zip abh (bf 4) (bf 3)) (λ_ _ _ _=>a6l rfl (ud (pgm 0) (ud (pgm 1) a3h))) abe (λ_ _ _ _=>(yu (a7q rfl M.sorted rfl M.set rfl (yu (jq (bf 0) (bf 1))))))))
 iw)
 (bx (xn (i:=3) SC.nd rfl (Or.inl rfl) rfl (a2h ["_law_ends"] ["_law_rows"] [0]) (uq (bf 3)) (pgn 0) vh (λ_ _ _ _=>(jr D_20 hr h_20 (aa (bf 0) (aa (bf 1) aq))))))))
 (bx (ie (bf 4))))))
theorem awq:FnScope ["_law_parts","_law_size","_law_now","_law_rows"] ["_law_parts","_law_size"] (dj (top 27)):=by walk_at "sc"
theorem b2e(M:Nm mg)(D_20:Dn P w K mg base k_20 "_law_led" ["_law_ends","_law_rows"] (qd K 2 F_20) a_20 d_20)(h_20:k_20<=k):MD P w K mg base f k ["_law_parts","_law_size","_law_now","_law_rows"] "_law_row" (top 27) (ENG.a4k F_20):=λcdv A outer s H E hr =>
 have SC:=awq
 (ak (xn (i:=2) SC.nd rfl (Or.inl rfl) rfl (a7u ["_law_at"]) (wg rfl M.range (aa (jq (bf 1) au) aq)) (pgn 0) vh (λ_ _ _ _=>(yu (o8 (aa (bf 0) aq)))))
 (ak (a0n c6 rfl (uq (bf 0)) (mq (i:=3) SC.nd rfl (Or.inr rfl)) (bx (xn (i:=2) SC.nd rfl (Or.inl rfl) rfl (a2h ["_law_ends"] ["_law_rows"] [3]) (uq (bf 2)) (pgn 0) vh (λ_ _ _ _=>(jr D_20 hr h_20 (aa (bf 0) (aa (bf 1) aq)))))))
 (bx (ie (bf 2)))))
theorem awr:FnScope ["_law_shape_here","_law_word_here","_law_size","_law_below","_law_firsts","_law_own"] ["_law_shape_here","_law_word_here"] (dj (top 28)):=by walk_at "sc"
theorem b2f(M:Nm mg)(D_21:Dn P w K mg base k_21 "_law_again" ["_law_rows"] (qd K 1 F_21) a_21 d_21)(h_21:k_21<=k)(D_24:Dn P w K mg base k_24 "_law_all" ["_law_shape_here","_law_word_here"] (qd K 2 F_24) a_24 azv)(h_24:k_24<=k)(D_18:Dn P w K mg base k_18 "_law_inner" ["_law_shape_here"] (qd K 1 F_18) a_18 d_18)(h_18:k_18<=k)(D_23:Dn P w K mg base k_23 "_law_row" ["_law_parts","_law_size"] (qd K 2 F_23) a_23 d_23)(h_23:k_23<=k)(D_22:Dn P w K mg base k_22 "_law_times" ["_law_rows","_law_low","_law_high"] (qd K 3 F_22) a_22 d_22)(h_22:k_22<=k):MD P w K mg base f k ["_law_shape_here","_law_word_here","_law_size","_law_below","_law_firsts","_law_own"] "_law_all" (top 28) (ENG.a2g F_21 F_24 F_18 F_23 F_22):=λcdv A outer s H E hr =>
 have SC:=awr
 (ak (jy 2 SC.nd (nj M.len (aa (bf 1) aq)))
 (ak (mj (m9 hr.u (bj (bf 0) au) je)
 (bx (ie (o8 (aa (yu (yg rfl (a2h ["_law_at"] ["_law_shape_here","_law_word_here"] [0,1]) (wg rfl M.range (aa (jq (bf 2) au) aq)) (pgn 0) vh (λ_ _ _ _=>(yu (rm (yu (o8 (aa (jq (bf 0) au) aq))) yz (wj (a1f a6o acy rfl M.int aed (aa (aei (a3m (a77 hr.u) a3r (rm (bf 2) (wj (bf 0)) (wj (jq (bf 0) au))) je (a6m _)) (aeh (a3m (a4y.or a0m) a5a (rm (bf 2) (wj (bf 0)) (wj (jq (bf 0) au))) (bj (bf 1) au) (by with_unfolding_all rfl)))) aq)))))))) aq))))
 iw)
 (ak (xn (i:=3) SC.nd rfl (Or.inl rfl) rfl (a2h ["_law_part"] ["_law_word_here"] [1]) (uq (jr D_18 hr h_18 (aa (bf 0) aq))) (pgn 0) vh (λ_ _ _ _=>(jr D_24 hr h_24 (aa (bf 0) (aa (bf 1) aq)))))
 (ak (jy 4 SC.nd (yu (yg rfl (a7u ["_law_rows"]) (uq (bf 3)) (pgn 0) vh (λ_ _ _ _=>(bj (bf 0) au)))))
 (ak (mj (m9 hr.u (bj (bf 0) au) je)
 (bx (jy 5 SC.nd (jr D_21 hr h_21 (aa (bj (bf 4) au) aq))))
 (bx (mj (m9 hr.u (bj (bf 0) au) je)
 (bx (jy 5 SC.nd (jr D_22 hr h_22 (aa (bj (bf 4) au) (aa (bj (bf 0) au) (aa (bj (bf 0) au) aq))))))
 (bx (mj (m9 hr.u (bj (bf 0) au) je)
 (bx (jy 5 SC.nd (jr D_23 hr h_23 (aa (bf 4) (aa (bf 2) aq)))))
 (bx (ak9 (i:=5) SC.nd rfl (Or.inl rfl) rfl (CSd.of (t := "_law_at") (ts:=["_law_at"]) (fr:=["_law_firsts"]) (ix:=[4]) rfl rfl (λ_=>rfl) (λ_=>rfl) rfl (by intro p hp;cases aD.mp hp;rfl) rfl rfl rfl) (wg rfl M.range (aa (jq (bf 2) au) aq)) (λ_ _ _ _=>(a92 (i:=0) (show (["_law_at","_law_firsts"]:List Str).Nodup by decide +kernel) rfl (Or.inr rfl) (.inl (cJ _)))) vh (λ_ _ _ _=>(yu (a7q rfl M.sorted rfl M.set rfl (yu (a4a (abw rfl) afa rfl M.sum ap6 (aa (yu (yg rfl (a2h ["_law_rows"] ["_law_at"] [0]) (uq (bf 1)) (pgn 0) vh (λ_ _ _ _=>(bj (bf 0) (bf 1))))) (aa (yu (o8 aq)) aq))))))))))))))
 (bx (ie (jq (yu (o8 (aa (bf 5) aq))) (yu (a4a (abw rfl) afa rfl M.sum ap6 (aa (bf 3) (aa (yu (o8 aq)) aq))))))))))))
theorem aws:FnScope ["_law_pen_here","_law_shape_here","_law_number_here","_law_low","_law_high","_law_size"] ["_law_pen_here","_law_shape_here"] (dj (top 29)):=by walk_at "sc"
theorem b2g(M:Nm mg)(D_25:Dn P w K mg base k_25 "_law_paper" ["_law_pen_here","_law_shape_here"] (qd K 2 F_25) a_25 azw)(h_25:k_25<=k)(D_14:Dn P w K mg base k_14 "_law_take" ["_law_pen_here","_law_many"] (qd K 2 F_14) a_14 d_14)(h_14:k_14<=k):MD P w K mg base f k ["_law_pen_here","_law_shape_here","_law_number_here","_law_low","_law_high","_law_size"] "_law_paper" (top 29) (SHD.yh F_25 F_14):=λcdv A outer s H E hr =>
 have SC:=aws
 (ak (mj (m9 hr.u (bj (bf 1) au) je)
 (bx (ie (qj (aa je (aa (bj (bj (bf 1) au) (jr D_14 hr h_14 (aa (bf 0) (aa (nj M.len (aa (bj (bf 1) au) aq)) aq)))) aq)))))
 iw)
 (ak (mj (m9 hr.u (bj (bf 1) au) je)
 (ak (jy 2 SC.nd (jr D_14 hr h_14 (aa (bf 0) (aa (nj M.len (aa (bj (bf 1) au) aq)) aq))))
 (bx (ie (qj (aa je (aa (bf 2) (aa (jr D_25 hr h_25 (aa (bf 0) (aa (bj (bj (bf 1) au) (bf 2)) aq))) aq)))))))
 iw)
 (ak (mj (m9 hr.u (bj (bf 1) au) je)
 (bx (ie (qj (aa je (aa (a1f (L2.CallR.or uv (wy rfl)) a0o rfl M.tuple zm (aa (yu (yg rfl (a2h ["_law_part"] ["_law_pen_here"] [0]) (uq (bj (bf 1) au)) (pgn 0) vh (λ_ _ _ _=>(jr D_25 hr h_25 (aa (bf 1) (aa (bf 0) aq)))))) aq)) aq)))))
 iw)
 (ak (jy 3 SC.nd au)
 (ak (jy 4 SC.nd au)
 (ak (mj (m9 hr.u (bj (bf 1) au) je)
 (ak (jy 3 SC.nd (bj (bf 1) au))
 (bx (jy 4 SC.nd (bj (bf 1) au))))
 iw)
 (ak (jy 5 SC.nd (jq (bf 3) (jr D_14 hr h_14 (aa (bf 0) (aa (jq (a74 (bf 4) (bf 3)) au) aq)))))
 (bx (ie (qj (aa (bj (bf 1) au) (aa (a1f (L2.CallR.or uv (wy rfl)) a0o rfl M.tuple zm (aa (yu (yg rfl (a2h ["_law_k"] ["_law_pen_here","_law_shape_here"] [0,1]) (wg rfl M.range (aa (bf 5) aq)) (pgn 0) vh (λ_ _ _ _=>(jr D_25 hr h_25 (aa (bf 1) (aa (bj (bf 2) au) aq)))))) aq)) aq))))))))))))
theorem awt:FnScope ["_law_paper_here"] ["_law_paper_here"] (dj (top 30)):=by walk_at "sc"
theorem b2h(D_26:Dn P w K mg base k_26 "_law_said" ["_law_paper_here"] (qd K 1 F_26) a_26 azx)(h_26:k_26<=k):MD P w K mg base f k ["_law_paper_here"] "_law_said" (top 30) (SHD.a0t F_26):=λcdv A outer s H E hr =>
 have SC:=awt
 (ak (mj (m9 hr.u (bj (bf 0) au) je)
 (bx (ie (bj (bf 0) au)))
 iw)
 (ak (mj (m9 hr.u (bj (bf 0) au) je)
 (bx (ie (jr D_26 hr h_26 (aa (bj (bf 0) au) aq))))
 iw)
 (bx (ie (aiv dU dW a6x a4d je (aa (yu (yg rfl (a7u ["_law_one"]) (uq (bj (bf 0) au)) (pgn 0) vh (λ_ _ _ _=>(jr D_26 hr h_26 (aa (bf 0) aq))))) aq))))))
theorem awu:FnScope ["_law_thing"] ["_law_thing"] (dj (top 31)):=by walk_at "sc"
theorem b2j(M:Nm mg):MD P w K mg base f k ["_law_thing"] "_law_number" (top 31) (SHD.a0e):=λcdv A outer s H E hr =>
 have SC:=awu
 (bx (ie (aei (a4a (L2.CallR.or um qw) a0d rfl M.isinstance ou (aa (bf 0) (aa (ab8 rfl M.int aed) aq))) (aeh (av1 (a4a (L2.CallR.or um qw) a0d rfl M.isinstance ou (aa (bf 0) (aa (ab8 rfl M.bool ar8) aq))))))))
theorem awv:FnScope ["_law_parts","_law_papers","_law_words"] ["_law_parts","_law_papers"] (dj (top 32)):=by walk_at "sc"
theorem b2k(M:Nm mg)(D_29:Dn P w K mg base k_29 "_law_walked" ["_law_shape_here","_law_paper_here"] (qd K 2 F_29) a_29 d_29)(h_29:k_29<=k):MD P w K mg base f k ["_law_parts","_law_papers","_law_words"] "_law_many_walked" (top 32) (SHD.uw F_29):=λcdv A outer s H E hr =>
 have SC:=awv
 (ak (mj (PW.pt (a71 (a5s (a6z (a4a (L2.CallR.or um qw) a0d rfl M.isinstance ou (aa (bf 1) (aa (ab8 rfl M.tuple zm) aq))))) (a70 (uf (a77 hr.u) a3r (nj M.len (aa (bf 1) aq)) (nj M.len (aa (bf 0) aq))))))
 (bx (ie zg))
 iw)
 (ak (xn (i:=2) SC.nd rfl (Or.inl rfl) rfl (a7u ["_law_part","_law_one"]) (adk rfl M.zip abh (bf 0) (bf 1)) (λ_ _ _ _=>a6l rfl (ud (pgm 0) (ud (pgm 1) a3h))) abe (λ_ _ _ _=>(jr D_29 hr h_29 (aa (bf 0) (aa (bf 1) aq)))))
 (ak (mj (a1e (a4y.or a0m) a5a zg (bf 2) (by with_unfolding_all rfl))
 (bx (ie zg))
 iw)
 (bx (ie (aiv dU dW a6x a4d je (aa (bf 2) aq)))))))
theorem aww:FnScope ["_law_shape_here","_law_paper_here"] ["_law_shape_here","_law_paper_here"] (dj (top 33)):=by walk_at "sc"
theorem b2l(M:Nm mg)(D_28:Dn P w K mg base k_28 "_law_many_walked" ["_law_parts","_law_papers"] (qd K 2 F_28) a_28 b0z)(h_28:k_28<=k)(D_27:Dn P w K mg base k_27 "_law_number" ["_law_thing"] (qd K 1 F_27) a_27 d_27)(h_27:k_27<=k)(D_29:Dn P w K mg base k_29 "_law_walked" ["_law_shape_here","_law_paper_here"] (qd K 2 F_29) a_29 d_29)(h_29:k_29<=k):MD P w K mg base f k ["_law_shape_here","_law_paper_here"] "_law_walked" (top 33) (SHD.a0f F_28 F_27 F_29):=λcdv A outer s H E hr =>
 have SC:=aww
 (ak (mj (PW.pt (a71 (a5s (a6z (a4a (L2.CallR.or um qw) a0d rfl M.isinstance ou (aa (bf 1) (aa (ab8 rfl M.tuple zm) aq))))) (a71 (uf (a89.or uy) a3b (nj M.len (aa (bf 1) aq)) au) (a71 (a5s (a6z (a4a (L2.CallR.or um qw) a0d rfl M.isinstance ou (aa (bj (bf 1) au) (aa (ab8 rfl M.str aic) aq))))) (a70 (uf (a77 hr.u) a3r (bj (bf 1) au) (bj (bf 0) au)))))))
 (bx (ie zg))
 iw)
 (ak (mj (m9 hr.u (bj (bf 0) au) je)
 (ak (mj (PW.pt (a71 (uf (a77 hr.u) a3r (nj M.len (aa (bf 1) aq)) au) (a71 (a5s (a6z (jr D_27 hr h_27 (aa (bj (bf 1) au) aq)))) (a70 (a5s (aeg (aq7.or a6u) (a89.or uy) ail a3b au (bj (bf 1) au) (nj M.len (aa (bj (bf 0) au) aq))))))))
 (bx (ie zg))
 iw)
 (bx (ie (jr D_29 hr h_29 (aa (bj (bj (bf 0) au) (bj (bf 1) au)) (aa (bj (bf 1) au) aq))))))
 iw)
 (ak (mj (uf (a77 hr.u) a3r (nj M.len (aa (bf 1) aq)) au)
 (bx (ie zg))
 iw)
 (ak (mj (m9 hr.u (bj (bf 0) au) je)
 (ak (mj (PW.pt (a5r (a6z (a4a (L2.CallR.or um qw) a0d rfl M.isinstance ou (aa (bj (bf 1) au) (aa (ab8 rfl M.str aic) aq)))) (a5r (m9 hr.u (nj M.len (aa (bj (bf 1) au) aq)) au) (a3n (a1e (a4y.or a0m) a5a (bj (bf 1) au) (bj (bf 0) au) (by with_unfolding_all rfl))))))
 (bx (ie (bj (bf 1) au)))
 iw)
 (bx (ie zg)))
 iw)
 (ak (mj (m9 hr.u (bj (bf 0) au) je)
 (bx (ie (jr D_28 hr h_28 (aa (bj (bf 0) au) (aa (bj (bf 1) au) aq)))))
 iw)
 (ak (mj (a5s (a6z (a4a (L2.CallR.or um qw) a0d rfl M.isinstance ou (aa (bj (bf 1) au) (aa (ab8 rfl M.tuple zm) aq)))))
 (bx (ie zg))
 iw)
 (ak (mj (PW.pt (a5r (m9 hr.u (bj (bf 0) au) je) (a3n (a5s (aeg (aq7.or a6u) (aq7.or a6u) ail ail (bj (bf 0) au) (nj M.len (aa (bj (bf 1) au) aq)) (bj (bf 0) au))))))
 (bx (ie zg))
 iw)
 (bx (ie (jr D_28 hr h_28 (aa (yu (a3s (yu (o8 (aa (bj (bf 0) au) aq))) (nj M.len (aa (bj (bf 1) au) aq)))) (aa (bj (bf 1) au) aq))))))))))))
theorem awx:FnScope ["_law_shape_here","_law_word_here","_law_found","_law_said_here","_law_told"] ["_law_shape_here","_law_word_here"] (dj (top 34)):=by walk_at "sc"
theorem b2m(M:Nm mg)(D_24:Dn P w K mg base k_24 "_law_all" ["_law_shape_here","_law_word_here"] (qd K 2 F_24) a_24 azv)(h_24:k_24<=k)(D_29:Dn P w K mg base k_29 "_law_walked" ["_law_shape_here","_law_paper_here"] (qd K 2 F_29) a_29 d_29)(h_29:k_29<=k)(D_7:Dn P w K mg base k_7 "taking" ["shape","word"] (qd K 2 F_7) a_7 d_7)(h_7:k_7<=k)(D_12:Dn P w K mg base k_12 "word_of" ["paper"] (qd K 1 F_12) a_12 ay8)(h_12:k_12<=k):MD P w K mg base f k ["_law_shape_here","_law_word_here","_law_found","_law_said_here","_law_told"] "_law_right" (top 34) (a1o F_24 F_29 F_7 F_12):=λcdv A outer s H E hr =>
 have SC:=awx
 (ak (jy 2 SC.nd (jr D_7 hr h_7 (aa (bf 0) (aa (bf 1) aq))))
 (ak (mj (a1e (a4z.or a1x) acx (nj M.len (aa (bf 1) aq)) (bj (bj (jr D_24 hr h_24 (aa (bf 0) (aa (bf 1) aq))) au) au) (by with_unfolding_all rfl))
 (bx (ie (a3m (ahy.or a98) aip (bf 2) zg (a6m _))))
 iw)
 (ak (jy 3 SC.nd (jr D_29 hr h_29 (aa (bf 0) (aa (bf 2) aq))))
 (ak (mj (PW.pt (a71 (uf (ahy.or a98) aip (bf 3) zg) (a70 (uf (a77 hr.u) a3r (bf 3) (bf 1)))))
 aj4
 iw)
 (ak (jy 4 SC.nd (jr D_12 hr h_12 (aa (bf 2) aq)))
 (bx (ie (aei (a4a (L2.CallR.or um qw) a0d rfl M.isinstance ou (aa (bf 4) (aa (ab8 rfl M.str aic) aq))) (aeh (a3m (ap5 hr.u) aiw (bf 4) (bf 1) (a6m _)))))))))))
theorem awy:FnScope ["_law_script","_law_pen_here","_law_some_here","_law_turn","_law_shape_here","_law_paper_here","_law_word_here","_law_at","_law_sign","_law_near","_law_one","_law_long","_law_part"] ["_law_script"] (dj (top 35)):=by walk_at "sc"
theorem b2n(M:Nm mg)(D_25:Dn P w K mg base k_25 "_law_paper" ["_law_pen_here","_law_shape_here"] (qd K 2 F_25) a_25 azw)(h_25:k_25<=k)(D_13:Dn P w K mg base k_13 "_law_pen" ["_law_script"] (qd K 1 F_13) a_13 d_13)(h_13:k_13<=k)(D_30:Dn P w K mg base k_30 "_law_right" ["_law_shape_here","_law_word_here"] (qd K 2 F_30) a_30 d_30)(h_30:k_30<=k)(D_26:Dn P w K mg base k_26 "_law_said" ["_law_paper_here"] (qd K 1 F_26) a_26 azx)(h_26:k_26<=k)(D_17:Dn P w K mg base k_17 "_law_shape" ["_law_pen_here","_law_purse","_law_deep","_law_tongue"] (qd K 4 F_17) a_17 azu)(h_17:k_17<=k)(D_15:Dn P w K mg base k_15 "_law_signs" [] (qd K 0 F_15) a_15 d_15)(h_15:k_15<=k)(D_16:Dn P w K mg base k_16 "_law_some" ["_law_pen_here","_law_rest","_law_most"] (qd K 3 F_16) a_16 d_16)(h_16:k_16<=k)(D_14:Dn P w K mg base k_14 "_law_take" ["_law_pen_here","_law_many"] (qd K 2 F_14) a_14 d_14)(h_14:k_14<=k)(D_19:Dn P w K mg base k_19 "_law_word" ["_law_pen_here","_law_tongue","_law_most"] (qd K 3 F_19) a_19 d_19)(h_19:k_19<=k)(D_12:Dn P w K mg base k_12 "word_of" ["paper"] (qd K 1 F_12) a_12 ay8)(h_12:k_12<=k):MD P w K mg base f k ["_law_script","_law_pen_here","_law_some_here","_law_turn","_law_shape_here","_law_paper_here","_law_word_here","_law_at","_law_sign","_law_near","_law_one","_law_long","_law_part"] "law" (top 35) (ao1 F_25 F_13 F_30 F_26 F_17 F_15 F_16 F_14 F_19 F_12):=λcdv A outer s H E hr =>
 have SC:=awy
 (ak (jy 1 SC.nd (aeu true D_13 (hr.mono h_13) rfl (aa (bf 0) aq)))
 (ak (jy 2 SC.nd (jr D_16 hr h_16 (aa (bf 1) (aa (aj3 false D_15 (hr.mono h_15) rfl) (aa (bj (yu (o8 (aa au (aa au (aa au (aa au aq)))))) (jr D_14 hr h_14 (aa (bf 1) (aa au aq)))) aq)))))
 (ak (a0n c6 rfl (wg rfl M.range (aa au aq)) (mq (i:=3) SC.nd rfl (Or.inl rfl)) (ak (jy 4 SC.nd (jr D_17 hr h_17 (aa (bf 1) (aa (o8 (aa (bj (yu (o8 (aa au (aa au aq)))) (jr D_14 hr h_14 (aa (bf 1) (aa au aq)))) aq)) (aa au (aa (bf 2) aq))))))
 (ak (jy 5 SC.nd (jr D_25 hr h_25 (aa (bf 1) (aa (bf 4) aq))))
 (ak (jy 6 SC.nd (jr D_26 hr h_26 (aa (bf 5) aq)))
 (ak (jy 7 SC.nd (jr D_14 hr h_14 (aa (bf 1) (aa (jq (nj M.len (aa (bf 6) aq)) au) aq))))
 (ak (jy 8 SC.nd (bj (yu (o8 (aa je (aa (bj (bf 2) (jr D_14 hr h_14 (aa (bf 1) (aa (nj M.len (aa (bf 2) aq)) aq)))) aq)))) (jr D_14 hr h_14 (aa (bf 1) (aa au aq)))))
 (ak (jy 9 SC.nd (jq (jq (rm (bf 6) yz (wj (bf 7))) (bf 8)) (rm (bf 6) (wj (jq (bf 7) (jr D_14 hr h_14 (aa (bf 1) (aa au aq))))) yz)))
 (ak (mj (PW.pt (a5r (uf (a89.or uy) a3b (nj M.len (aa (bf 6) aq)) au) (a3n (uf (a77 hr.u) a3r (jr D_12 hr h_12 (aa (bf 5) aq)) (bf 6)))))
 aj4
 iw)
 (bx (a0n c6 rfl (uq (qj (aa (rm (bf 6) yz (wj au)) (aa (rm (bf 9) yz (wj au)) (aa (jr D_19 hr h_19 (aa (bf 1) (aa (bf 2) (aa au aq)))) (aa je (aa (rm (bf 6) yz (wj au)) aq))))))) (mq (i:=10) SC.nd rfl (Or.inl rfl)) (bx (mj (a5s (a6z (jr D_30 hr h_30 (aa (bf 4) (aa (bf 10) aq)))))
 aj4
 iw))))))))))))
 (ak (jy 11 SC.nd (aiv dU dW a6x a4d je (aa (yu (yg rfl (a2h ["_law_k"] ["_law_pen_here","_law_some_here"] [1,2]) (wg rfl M.range (aa au aq)) (pgn 0) vh (λ_ _ _ _=>(bj (bf 2) (jr D_14 hr h_14 (aa (bf 1) (aa (nj M.len (aa (bf 2) aq)) aq))))))) aq)))
 (ak (jy 12 SC.nd (qj (aa je (aa (bf 2) aq))))
 (bx (ie (aei (jr D_30 hr h_30 (aa (qj (aa je (aa (bf 12) aq))) (aa (bf 11) aq))) (aeh (jr D_30 hr h_30 (aa (qj (aa je (aa (qj (aa je (aa (bf 12) (aa au (aa au aq))))) aq))) (aa (bf 11) aq))))))))))))
end
end K09
namespace SRC
open L2 MI
end SRC
namespace HND
open L2 MI
def a06:SS :=
 (jg (n6 0 (sC (.str " !\"#$&'()*+,-./0123456789:;<=>?@ABCDEFGHIJKLMNOPQRSTUVWXYZ[\\]^_`")))
 (o9 (s2 jo (sV 0) (sC (.str "abcdefghijklmnopqrstuvwxyz{|}~\n")))))
end HND
namespace MI
open L2
abbrev S(l:List Nat):Str:=⟨l.toArray⟩
theorem aa0(l:List Nat):(S l).cps.toList=l:=by simp
theorem aa1(l:List Nat):(S l).length=l.length:=by simp [Str.length]
theorem akf(x:Str):S x.cps.toList=x:=by cases x;simp
theorem asl(a b:List Nat):S a++S b=S (a++b):=by rw [<-akf (S a++S b),ayx]
theorem aze(h:S a=S b):a=b:=by
 have:=ah (λx:Str=>x.cps.toList) h
 simpa using this
theorem azf(a b:List Nat):(S a == S b)=decide (a=b):=by
 by_cases h:a=b
 .subst h;simp
 .have:¬ S a=S b:=λz=>h (aze z)
  simp [h]
section
variable{h:Hd}{a b l:List Nat}{i:Nat}{c:Nat}
theorem asm(hl:l.length<=LINE)(e:l[i]? = some c):gIx (.str (S l)) (.int (i:Nat)) h=.ok (.str (S [c])) h:=by
 unfold gIx;simp only [aa1,aE hl,aa0,ye e]
theorem akg(hl:a.length+b.length<=LINE):jo (.str (S a)) (.str (S b)) h=.ok (.str (S (a++b))) h:=by
 unfold jo;simp only [aa1,aE hl,asl]
theorem a4o(hl:l.length<=LINE):qu [.str (S l)] h=.ok (.int l.length) h:=by
 unfold qu;simp only [aa1,aE hl]
theorem axy(k:Nat)(hl:l.length<=LINE):abl (.str (S l)) none (some (k:Int)) h=.ok (.str (S (l.take k))) h:=by
 show gSl (.str (S l)) none (some (k:Int)) h=_;unfold gSl;simp only [aa1,aE hl,aa0,a9b]
theorem apg(k:Nat)(hl:l.length<=LINE):abl (.str (S l)) (some (k:Int)) none h=.ok (.str (S (l.drop k))) h:=by
 show gSl (.str (S l)) (some (k:Int)) none h=_;unfold gSl;simp only [aa1,aE hl,aa0,a6w]
theorem b2o(j k:Nat)(hl:l.length<=LINE):abl (.str (S l)) (some (j:Int)) (some (k:Int)) h=.ok (.str (S ((l.drop j).take (k-j)))) h:=by
 show gSl (.str (S l)) (some (j:Int)) (some (k:Int)) h=_;unfold gSl;simp only [aa1,aE hl,aa0,aqp]
end
section
variable{h:Hd}{i j:Int}{xs ys:List D}
theorem a6q:gIx (.tup xs) (.int i) h=(match atI xs i with|some d=>.ok d h|none=>.no):=rfl
theorem ac3:gIx (.rol xs) (.int i) h=(match atI xs i with|some d=>.ok d h|none=>.no):=rfl
theorem ac4:gIx (.ref k) (.int i) h=(match a2n (.ref k) h with|some xs=>(match atI xs i with|some d=>.ok d h|none=>.no)|none=>.no):=rfl
theorem aa2:qu [.tup xs] h=.ok (.int xs.length) h:=rfl
theorem aa3:qu [.rol xs] h=.ok (.int xs.length) h:=rfl
theorem aa4:qu [.ref k] h=(match a2n (.ref k) h with|some xs=>.ok (.int xs.length) h|none=>.no):=rfl
theorem afi:jo (.int i) (.int j) h=.ok (.int (i+j)) h:=rfl
theorem aa5:az3 (.int i) (.int j) h=.ok (.int (i+j)) h:=rfl
open Classical in
theorem afj:a1h (.int i) (.int j) h=if CMul i j then .ok (.int (i*j)) h else .no:=by unfold a1h;rfl
theorem ug(b:Bool):tru (.bl b) h=.ok b h:=rfl
theorem aa6:tru (.int i) h=.ok (i != 0) h:=rfl
theorem aa7:tru (.rol xs) h=.ok (!xs.isEmpty) h:=rfl
theorem aa8:tru (.tup xs) h=.ok (!xs.isEmpty) h:=rfl
theorem aa9:tru .non h=.ok false h:=rfl
theorem ah9:hEq (.int i) (.int j) h=.ok (.bl (i == j)) h:=rfl
theorem aha:hNe (.int i) (.int j) h=.ok (.bl (!(i == j))) h:=rfl
theorem awz(a b:Str):hEq (.str a) (.str b) h=.ok (.bl (a == b)) h:=rfl
theorem asn(a b:Str):hNe (.str a) (.str b) h=.ok (.bl (!(a == b))) h:=rfl
theorem ao6(a b:Bool):hEq (.bl a) (.bl b) h=.ok (.bl (a == b)) h:=rfl
theorem ao7(a b:Bool):hNe (.bl a) (.bl b) h=.ok (.bl (!(a == b))) h:=rfl
theorem afk(x:D):gIs x .non h=.ok (.bl (a8d x)) h:=by cases x<;>rfl
theorem a4p(x:D):aep x .non h=.ok (.bl (!a8d x)) h:=by cases x<;>rfl
theorem ao8(a b:Bool):gIs (.bl a) (.bl b) h=.ok (.bl (a == b)) h:=rfl
theorem a6f(a b:Bool):aep (.bl a) (.bl b) h=.ok (.bl (a != b)) h:=rfl
theorem axz:a8d (.int i)=false:=rfl
theorem ay0(x:Str):a8d (.str x)=false:=rfl
theorem ay1:a8d .non=true:=rfl
theorem ay2:a8d (.tup xs)=false:=rfl
end
end MI
namespace HND
open L2 MI AT
end HND
namespace HND
open L2 MI AT
def ay3:Str := " !\"#$&'()*+,-./0123456789:;<=>?@ABCDEFGHIJKLMNOPQRSTUVWXYZ[\\]^_`"
def ay4:Str := "abcdefghijklmnopqrstuvwxyz{|}~\n"
def sig:List Nat:=ay3.cps.toList++ay4.cps.toList
theorem akh:sig.length=95:=by decide +kernel
theorem ax0:sig.Nodup:=by decide +kernel
def ji:SF:=qb a06 1
theorem lits{h:Hd}:jo (.str ay3) (.str ay4) h=.ok (.str (S sig)) h:=by
 rw [<-akf ay3,<-akf ay4,akg (by decide +kernel)]
 rfl
theorem aaa:Pu ji 0 [] (.str (S sig)):=by
 refine Pu.of rfl (by simp) (r:=.ok (.str (S sig)) []) ?_ (by rw [a0c (j5 _) (by simp)];rfl) (j5 _)
 unfold ji;rw [jf];unfold a06;have e:=@lits [];unfold ay3 ay4 at e;show toR (jg (n6 0 _) _ [none] [])=_;simp only [yj,n6,sC,a7b,a5u,o9,s2,sV,cW,cT,cj,e,abm]
theorem aki(a r:List Nat)(i:Nat)(c:Nat)(e:r[i]? = some c):List.Perm (a++r) ((a++[c])++(r.take i++r.drop (i+1))):=by
 obtain ⟨hi,e⟩:=am.mp e;have:r=r.take i++c::r.drop (i+1):=by rw [<-e];simp
 rw [cM];refine List.Perm.append_left a ?_;rw [List.singleton_append]
 conv=>lhs;rw [this]
 exact List.perm_middle
end HND
namespace MI
open L2
theorem azg(n:Nat):rng 0 n=(List.range n).map λi:Nat=>D.int (i:Nat):=by
 unfold rng;exact ce λi _=>by rw [Int.zero_add]
theorem azh(a:Int)(n:Nat):rng a n=(List.range n).map λi:Nat=>D.int (a+(i:Nat)):=rfl
theorem adl(h:n<=LINE):B62 (n:Int):=by
 have:n<=16777216:=h
 unfold B62;omega
theorem ax1(h:Hd)(z:n<=LINE):v4 [.int (n:Nat)] h=.ok ⟨(List.range n).map λi:Nat=>D.int (i:Nat),λ_=>True⟩ h:=by
 unfold v4;simp only [adl z,db,cv,azg]
theorem ax2(h:Hd)(za:a<=LINE)(z:n<=LINE):abb [.int (a:Nat),.int (n:Nat)] h=.ok ⟨(List.range (n-a)).map λi:Nat=>D.int ((a+i:Nat)),λ_=>True⟩ h:=by
 unfold abb;simp only [adl z,adl za,iX,db,azh];rw [show ((n:Int)-(a:Int)).toNat=n-a by omega]
 congr 2
theorem azi(e:f τ h=.ok d h):aj f bz τ h=.ok [d] h:=by unfold aj bz;rw [e];rfl
theorem xu(e:f τ h=.ok (.int (n:Nat)) h)(z:n<=LINE):sRg v4 (aj f bz) τ h=.ok ⟨(List.range n).map λi:Nat=>D.int (i:Nat),λ_=>True⟩ h:=by
 unfold sRg;rw [azi e,cj];exact ax1 h z
theorem bw(e:τ[i]? = some (some d)):sV i τ h=.ok d h:=by unfold sV;rw [e]
theorem m8{fi:SI}{t:D->Option Sd}{fe:SE}{ix:List Nat}{τ:Sd}{h:Hd}{α:Type}(g F:α->D)(xs:List α)(e:fi τ h=.ok ⟨xs.map g,λ_=>True⟩ h)(z:xs.length<=LINE)
  (st:∀x∈xs,a2y t fe (frs' ix τ) (g x) h=.ok (F x) h):m5 fi t fe ix τ h=.ok (.ref h.length) (h++[.lst (xs.map F)]):=by
 unfold m5;rw [e,cj];dsimp only;rw [aE (by rw [ax];exact z),abn g F st]
 rfl
theorem akj{fi:SI}{t:D->Option Sd}{c:ST}{fe:SE}{ix:List Nat}{τ:Sd}{h:Hd}{α:Type}(g:α->D)(F:α->Option D)(xs:List α)(e:fi τ h=.ok ⟨xs.map g,λ_=>True⟩ h)(z:xs.length<=LINE)
  (st:∀x∈xs,acv t c fe (frs' ix τ) (g x) h=.ok (F x) h):a8p fi t c fe ix τ h=.ok (.ref h.length) (h++[.lst (xs.filterMap F)]):=by
 unfold a8p;rw [e,cj];dsimp only;rw [aE (by rw [ax];exact z),abo g F st]
 rfl
theorem sy(fe:SE)(r:Sd)(x:D)(h:Hd):a2y t1 fe r x h=fe (some x::r) h:=rfl
theorem aso(c:ST)(fe:SE)(r:Sd)(x:D)(h:Hd):acv t1 c fe r x h=(c (some x::r) h).bind λb h1=>if b=true then (fe (some x::r) h1).bind λy h2=>.ok (some y) h2 else .ok none h1:=rfl
section
variable{f k f1 f2 f3:SE}{c c1 c2:ST}{g p q:SS}{τ τ1:Sd}{h h1 h2 h3 h4:Hd}{a b d v:D}{i:Nat}{t u:Bool}
theorem gk(d:D)(τ:Sd)(h:Hd):sC d τ h=.ok d h:=rfl
theorem b0v(e3:G [] h=.ok v h1):sA G bz τ h=.ok v h1:=e3
theorem tu(e1:f τ h=.ok a h1)(e3:G [a] h1=.ok v h2):sA G (aj f bz) τ h=.ok v h2:=by
 have:aj f bz τ h=.ok [a] h1:=by unfold aj;rw [e1];rfl
 unfold sA;rw [this,cj,e3]
theorem ul(e1:f τ h=.ok a h1)(e2:k τ h1=.ok b h2)(e3:G [a,b] h2=.ok v h3):sA G (aj f (aj k bz)) τ h=.ok v h3:=by
 have:aj f (aj k bz) τ h=.ok [a,b] h2:=by unfold aj;rw [e1,cj,e2];rfl
 unfold sA;rw [this,cj,e3]
theorem ax3(e0:f1 τ h=.ok d h1)(e1:f τ h1=.ok a h2)(e2:k τ h2=.ok b h3)(e3:G [d,a,b] h3=.ok v h4):sA G (aj f1 (aj f (aj k bz))) τ h=.ok v h4:=by
 have:aj f1 (aj f (aj k bz)) τ h=.ok [d,a,b] h3:=by unfold aj;rw [e0,cj,e1,cj,e2];rfl
 unfold sA;rw [this,cj,e3]
theorem m7(e:f τ h=.ok d h1):jg (n6 i f) g τ h=g (τ.set i (some d)) h1:=by
 rw [yj];unfold n6;rw [e];rfl
theorem afl(e:f τ h=.ok d h1):n6 i f τ h=.nx (τ.set i (some d)) h1:=by
 unfold n6;rw [e];rfl
theorem a3t(e:p τ h=.nx τ1 h1):jg p g τ h=g τ1 h1:=by rw [yj,e];rfl
theorem nq(e:p τ h=.rt d h1):jg p g τ h=.rt d h1:=by rw [yj,e];rfl
theorem ifT(e:c τ h=.ok true h1):sIf c p q τ h=p τ h1:=by unfold sIf;rw [e];rfl
theorem ifF(e:c τ h=.ok false h1):sIf c p q τ h=q τ h1:=by unfold sIf;rw [e];rfl
theorem ifN(e:c τ h=.ok false h1):jg (sIf c p sNx) g τ h=g τ h1:=by rw [yj,ifF e];rfl
theorem tof(e:f τ h=.ok (.bl t) h1):sT f τ h=.ok t h1:=by unfold sT;rw [e];rfl
theorem a0z(e:f τ h=.ok d h1)(e':tru d h1=.ok t h2):aas f τ h=.ok t h2:=by unfold aas;rw [e,cj,e']
theorem ahb(e:c1 τ h=.ok true h1)(e':c2 τ h1=.ok t h2):a8m c1 c2 τ h=.ok t h2:=by unfold a8m;rw [e,cj,aE rfl,e']
theorem alw(e:c1 τ h=.ok false h1):a8m c1 c2 τ h=.ok false h1:=by unfold a8m;rw [e,cj,aS (by simp)]
theorem orT(e:c1 τ h=.ok true h1):sOr c1 c2 τ h=.ok true h1:=by unfold sOr;rw [e,cj,aE rfl]
theorem orF(e:c1 τ h=.ok false h1)(e':c2 τ h1=.ok t h2):sOr c1 c2 τ h=.ok t h2:=by unfold sOr;rw [e,cj,aS (by simp),e']
theorem ax4(e:c τ h=.ok t h1):a8b c τ h=.ok (!t) h1:=by unfold a8b;rw [e];rfl
theorem ahm(e:c τ h=.ok true h1):a8b c τ h=.ok false h1:=ax4 e
theorem akk(e:c τ h=.ok false h1):a8b c τ h=.ok true h1:=ax4 e
theorem jd(e:f τ h=.ok d h1):o9 f τ h=.rt d h1:=by unfold o9;rw [e];rfl
theorem ahc(e:f τ h=.ok (.bl true) h1)(e':k τ h1=.ok d h2):a3o f k τ h=.ok d h2:=by unfold a3o;rw [e,cj];exact e'
theorem akl(e1:f τ h=.ok d h1)(l:isL d h1=true)(e2:A τ h1=.ok ds h2)(e3:G d ds h2=.ok v h3):a8c (sML G f A) τ h=.nx τ h3:=by
 unfold a8c sML;rw [e1,cj,aE l,e2,cj,e3];rfl
theorem azj(e1:f τ h=.ok d h1)(l:isL d h1=true)(e2:A τ h1=.ok ds h2)(e3:G d ds h2=.ok v h3):sML G f A τ h=.ok v h3:=by
 unfold sML;rw [e1,cj,aE l,e2,cj,e3]
theorem arg1(e:f τ h=.ok d h1):aj f bz τ h=.ok [d] h1:=by unfold aj bz;rw [e];rfl
theorem ig(e1:f τ h=.ok a h1)(e2:k τ h1=.ok b h2)(e3:G a b h2=.ok v h3):s2 G f k τ h=.ok v h3:=by
 unfold s2;rw [e1,cj,e2,cj,e3]
theorem afm(e1:f τ h=.ok a h1)(e3:G a h1=.ok v h2):s1 G f τ h=.ok v h2:=by
 unfold s1;rw [e1,cj,e3]
theorem adm(e:f τ h=.ok d h1)(e2:G d τ h1=.nx τ1 h2):aek f G τ h=.nx τ1 h2:=by
 unfold aek;rw [e,a7b,e2]
theorem ao9(e1:f1 τ h=.ok v h1)(e2:f2 τ h1=.ok a h2)(e3:f3 τ h2=.ok b h3)(e4:put a b v h3=some h4):aej f1 f2 f3 τ h=.nx τ h4:=by
 unfold aej;rw [e1,a7b,e2,a7b,e3,a7b,e4]
theorem a7v{fi:SI}{G:SG}{b:SS}{xs:List D}{ck:Hd->Prop}(e:fi τ h=.ok ⟨xs,ck⟩ h1):jg (a8o fi G b) g τ h=thn (forL ck G b xs τ h1) g:=by
 rw [yj];unfold a8o;rw [e];rfl
theorem a7w(e:f τ h=.ok d h1)(e2:aqv d h1=.ok ⟨xs,ck⟩ h1):sIt f τ h=.ok ⟨xs,ck⟩ h1:=by
 unfold sIt;rw [e,cj,e2]
theorem aph(e:h[i]? = some (.lst xs))(z:xs.length<LINE):alv (.ref i) [a] h=.ok .non (h.set i (.lst (xs++[a]))):=by
 unfold alv;simp only [e,aE z]
theorem ax5(e:h[i]? = some (.lst xs))(hj:j<xs.length):put (.ref i) (.int (j:Nat)) v h=some (h.set i (.lst (xs.set j v))):=by
 have:ixN xs.length (j:Int)=some j:=by unfold ixN;rw [aE (by omega),aE (by omega)];simp
 unfold put;simp only [e,this]
theorem akm(e:h[i]? = some (.lst xs))(hj:xs[j]? = some y):gIx (.ref i) (.int (j:Nat)) h=.ok y h:=by
 rw [ac4];unfold a2n;simp only [e,ye hj]
theorem afn(hj:xs[j]? = some y):gIx (.rol xs) (.int (j:Nat)) h=.ok y h:=by
 rw [ac3];simp only [ye hj]
theorem aoa(hj:xs[j]? = some y):gIx (.tup xs) (.int (j:Nat)) h=.ok y h:=by
 rw [a6q];simp only [ye hj]
theorem atl(c:y<x):gGt (.int x) (.int y) h=.ok (.bl true) h:=by unfold gGt;simp only [c,fD]
theorem atm(c:¬ y<x):gGt (.int x) (.int y) h=.ok (.bl false) h:=by unfold gGt;simp only [c,eQ]
theorem api(c:x<y):gLt (.int x) (.int y) h=.ok (.bl true) h:=by unfold gLt;simp only [c,fD]
theorem apj(c:¬ x<y):gLt (.int x) (.int y) h=.ok (.bl false) h:=by unfold gLt;simp only [c,eQ]
theorem akn(c:x=y):hEq (.int x) (.int y) h=.ok (.bl true) h:=by rw [ah9,c,cJ]
theorem aob(c:¬ x=y):hEq (.int x) (.int y) h=.ok (.bl false) h:=by rw [ah9,da.mpr c]
theorem ac6(c:x=y):hNe (.int x) (.int y) h=.ok (.bl false) h:=by rw [aha,c,cJ];rfl
theorem aab(c:¬ x=y):hNe (.int x) (.int y) h=.ok (.bl true) h:=by rw [aha,da.mpr c];rfl
theorem a7x(x:Int):a5t (.int x) h=.ok (.int (-x)) h:=rfl
theorem ac8(x y:Int):MI.a8h (.int x) (.int y) h=.ok (.int (x-y)) h:=rfl
theorem du(h:n<=1000000):n<=LINE:=by show n<=16777216;omega
theorem apk(h:n<=1000000):n<LINE:=by show n<16777216;omega
theorem a8x:MI.ww [a,b] h=.ok (.tup [a,b]) h:=by unfold MI.ww;rw [aE (du (by simp))]
theorem ay5:MI.ww [a,b,v] h=.ok (.tup [a,b,v]) h:=by unfold MI.ww;rw [aE (du (by simp))]
end
end MI
namespace SRC
open L2 MI AT
end SRC
namespace EVX
open L2 MI
section
variable{i:Nat}{cs:Str->Bool}{fb fs p g:SS}{τ τ1 τ2:Sd}{h h1 h2:Hd}{c:Str}{f:SE}{ka:SA}{ds:List D}{F:SF}{n:Nat}
theorem apl:MI.ww [] h=.ok (.tup []) h:=by unfold MI.ww;rw [aE (du (by simp))]
theorem a65:sZ ar7 τ []=.ok (.rod [] []) []:=by
 unfold sZ;show a9j 0 (.ok (.ref 0) [.dK []])=_;refine a7d (h1:=[.dK []]) ?_ (by simp)
 unfold FU a88;rw [aS (by simp only [MI.clo];omega)]
 rfl
end
end EVX
namespace SRC
open L2 MI AT HND EVX
end SRC
namespace HND
open L2 MI AT
abbrev bc(i:Nat):D:=.int (i:Nat)
structure Table where
 tg:List Nat
 go:List (List Nat)
 ks:List Int
end HND
namespace MI
open L2
end MI
namespace PAP
open L2 MI AT HND
def Pln:D->Prop
 |.non=>True|.bl _=>True|.int _=>True|.str x=>x.cps.toList.length<=1000|.tup xs=>clos 0 xs|.rol xs=>clos 0 xs|.rod _ xs=>clos 0 xs|_=>False
theorem Pln.clo(p:Pln d):clo 0 d:=by
 cases d<;>first|(simp only [Pln] at p;done)|(simp only [Pln] at p;simpa [MI.clo] using p)|simp [MI.clo]
def isTup:D->Bool|.tup _=>true|_=>false
theorem asp(p:Pln d):sr [d,.ty "tuple"] h=.ok (.bl (isTup d)) h:=by
 cases d<;>first|(simp only [Pln] at p;done)|simp [sr,alu,tyD,ahk,isTup]
theorem ax6(e:f τ h=.ok (.bl false) h1):a3o f k τ h=.ok (.bl false) h1:=by unfold a3o;rw [e,cj]
theorem ahn(e:f τ h=.ok (.int i) h1):oS f τ h=.ok (some i) h1:=by unfold oS;rw [e];rfl
theorem alx(e:f τ h=.ok d h1)(e1:lo τ h1=.ok a h2)(e2:hi τ h2=.ok b h3)(e3:abl d a b h3=.ok v h4):a2a f lo hi τ h=.ok v h4:=by
 unfold a2a;rw [e,cj,e1,cj,e2,cj,e3]
theorem azk(xs:List D)(lo hi:Option Int)(h:Hd):abl (.tup xs) lo hi h=.ok (.tup (a4v xs lo hi)) h:=by
 unfold abl;dsimp only
 split
 .rename_i w;obtain ⟨a,b⟩:=w
  congr 2
  unfold a4v;rw [a,b,fh,bV (by omega)]
 .rfl
theorem azl(xs:List D)(k:Nat)(h:Hd):abl (.tup xs) none (some (k:Int)) h=.ok (.tup (xs.take k)) h:=by rw [azk,a9b]
theorem ako(xs:List D)(k:Nat)(h:Hd):abl (.tup xs) (some (k:Int)) none h=.ok (.tup (xs.drop k)) h:=by rw [azk,a6w]
theorem asq{xs ys:List D}(z:xs.length+ys.length<=1000000):jo (.tup xs) (.tup ys) h=.ok (.tup (xs++ys)) h:=by
 cases xs with
 |nil=>rfl
 |cons x xs =>
  show (if (x::xs).length+ys.length<=LINE then R.ok (D.tup (x::xs++ys)) h else .no)=_
  rw [aE (du z)]
theorem aly:MI.ww [a] h=.ok (.tup [a]) h:=by unfold MI.ww;rw [aE (du (by simp))]
theorem apl:MI.ww [] h=.ok (.tup []) h:=by unfold MI.ww;rw [aE (du (by simp))]
theorem gh(e:f τ h=.ok d h1)(e2:k τ h1=.ok ds h2):aj f k τ h=.ok (d::ds) h2:=by
 unfold aj;rw [e,cj,e2,cj]
theorem aof(e:k τ h=.ok ds h1)(e2:G ds h1=.ok v h2):sA G k τ h=.ok v h2:=by
 unfold sA;rw [e,cj,e2]
theorem a65:sZ ar7 τ []=.ok (.rod [] []) []:=by
 unfold sZ;show a9j 0 (.ok (.ref 0) [.dK []])=_;refine a7d (h1:=[.dK []]) ?_ (by simp)
 unfold FU a88;rw [aS (by simp only [MI.clo];omega)]
 rfl
theorem afo{h h':Hd}(hl:h'.length=h.length)(e:f τ h=.ok (.ref h'.length) (h'++[.lst xs]))(cx:clos h.length xs)(c:∀o∈h',ux h.length o):sZ f τ h=.ok (.rol xs) h':=by
 unfold sZ;rw [e,a2p (by omega) (by simp) cx (by rw [<-hl];simpa [hl] using c)]
 rw [<-hl];simp
end PAP
namespace SRC
open L2 MI AT HND EVX
end SRC
namespace BF
section
variable(s:Nat)(step:Nat->Nat->Nat)(K:Nat->Bool)
def fl:Nat->Nat->Bool
 |0,r=>K r
 |k+1,r=>(List.range s).any λc=>fl k (step r c)
variable{s step K}
end
theorem afp:∀(n:Nat) (l:List Nat),l.Nodup->(∀x∈l,x<n)->l.length<=n
 |0,l,_,h=>by
  cases l with
  |nil=>exact aA _
  |cons x l=>exact absurd (h x aI) (by omega)
 |n+1,l,nd,h=>by
  have:=afp n (l.erase n) (nd.erase n) λx hx=>by
   have h1:=h x (List.mem_of_mem_erase hx);have h2:x≠n:=λz=>by subst z;exact (List.Nodup.not_mem_erase nd) hx
   omega
  have:=List.length_erase (a:=n) (l:=l)
  split at this<;>omega
end BF
namespace SRC
open L2 MI AT HND EVX
abbrev cst(l:List Nat):List Int:=l.map λx:Nat=>(x:Int)
theorem aac(l:List Nat):l.map bc=(cst l).map D.int:=by unfold cst;rw [bB];rfl
theorem a5l(l:List Nat):∃m:List Nat,PySem.W.sortI (cst l)=cst m/\m.Perm l/\m.Pairwise (·<=·):=by
 have p:=PySem.W.sortI_perm (cst l);have s:=PySem.W.sortI_rises (cst l);refine ⟨(PySem.W.sortI (cst l)).map Int.toNat,?_,?_,?_⟩
 .unfold cst;rw [bB];have:∀x∈PySem.W.sortI (l.map λx:Nat=>(x:Int)),((λx:Nat=>(x:Int)) ∘ Int.toNat) x=x:=λx hx=>by
   have:=p.mem_iff.mp hx
   obtain ⟨y,_,rfl⟩:=b6.mp this;simp
  rw [ce this];simp
 .have:=p.map Int.toNat
  have e:(cst l).map Int.toNat=l:=by
   unfold cst;rw [bB];exact (ce λx _=>by simp).trans (List.map_id l)
  rwa [e] at this
 .rw [List.pairwise_map];exact s.imp λh=>by omega
def pos(m:List Nat)(x:Nat):Nat:=(ixI (x:Int) (cst m)).getD 0
end SRC
namespace MI
open L2 SRC HND
theorem akp{y:Nat}:(y:Int)∈cst l↔y∈l:=by
 unfold cst;rw [b6]
 constructor
 .rintro ⟨x,hx,e⟩;have:x=y:=by omega
  subst this;exact hx
 .intro h;exact ⟨y,h,rfl⟩
theorem aca(l:List Nat)(y:Nat):stepK (cst l) (y:Int)=cst (stepK l y):=by
 unfold L2.stepK
 by_cases h:y∈l
 .rw [aE h,aE (akp.mpr h)]
 .rw [aS h,aS λz=>h (akp.mp z)];unfold cst;rw [cI];rfl
structure Fw (n:Nat) (l:List Nat):Prop where
 nd:l.Nodup
 lt:∀x∈l,x<n
theorem Fw.nil:Fw n []:=⟨fq,by simp⟩
theorem Fw.len(h:Fw n l):l.length<=n:=BF.afp n l h.nd h.lt
theorem Fw.step(M:Fw n l)(hx:x<n):Fw n (stepK l x):=by
 unfold L2.stepK
 by_cases h:x∈l
 .rw [aE h];exact M
 rw [aS h];refine ⟨?_,λy hy=>?_⟩
 .rw [bQ];refine ⟨M.nd,by simp,λa ha b hb=>?_⟩
  rw [aD] at hb;subst hb;exact λe=>h (e ▸ ha)
 .rcases aZ.mp hy with z|z
  .exact M.lt y z
  .rw [aD] at z;subst z;exact hx
theorem aoc{x y:Nat}:y∈stepK l x↔y∈l\/y=x:=by
 unfold L2.stepK
 by_cases h:x∈l
 .rw [aE h];exact ⟨.inl,λz=>z.elim id λe=>e ▸ h⟩
 .rw [aS h,aZ,aD]
theorem Fw.fold:∀{r l:List Nat},Fw n l->(∀x∈r,x<n)->Fw n (r.foldl stepK l)
 |[],_,h,_=>h
 |x::r,l,h,k=>Fw.fold (r:=r) (h.step (k x aI)) λy hy=>k y (ay _ hy)
theorem a2u:∀{r l:List Nat},y∈r.foldl stepK l↔y∈l\/y∈r
 |[],l=>by simp
 |x::r,l=>by
  rw [dH,a2u (r:=r),aoc,aC]
  constructor
  .rintro ((h|h)|h)
   .exact .inl h
   .exact .inr (.inl h)
   .exact .inr (.inr h)
  .rintro (h|h|h)
   .exact .inl (.inl h)
   .exact .inl (.inr h)
   .exact .inr h
theorem acb(hn:n<=60):∀{r l:List Nat},Fw n l->(∀y∈r,y<n)->setIn (λ_=>True) (sV 1) x rd (r.map bc) (cst l) h=.ok (cst (r.foldl stepK l)) h
 |[],l,_,_=>by rw [dD,setIn,aE True.intro];rfl
 |y::r,l,M,k=>by
  rw [aT,setIn,aE True.intro];have e:sV 1 (some x::some (bc y)::rd) h=.ok (bc y) h:=bw rfl;rw [e,cj];have hl:=M.len;show (if (cst l).length<63 then setIn (λ_=>True) (sV 1) x rd (r.map bc) (stepK (cst l) (y:Int)) h else .no)=_
  rw [aE (by unfold cst;rw [ax];omega),aca]
  exact acb hn (M.step (k y aI)) λz hz=>k z (ay _ hz)
theorem a8y{n:Nat}(hn:n<=60){fj:SI}{rd:Sd}{h:Hd}{α:Type}(g:α->D)(row:α->List Nat):∀{xs:List α} {l:List Nat},Fw n l->(∀x∈xs,∀y∈row x,y<n)->(∀x∈xs,fj (some (g x)::none::rd) h=.ok ⟨(row x).map bc,λ_=>True⟩ h)->
  a3c (λ_=>True) fj (sV 1) rd (xs.map g) (cst l) h=.ok (cst (xs.foldl (λl x=>(row x).foldl stepK l) l)) h
 |[],l,_,_,_=>by rw [dD,a3c,aE True.intro];rfl
 |x::xs,l,M,k,e=>by
  rw [aT,a3c,aE True.intro,e x aI,cj];dsimp only;have kx:=k x aI;rw [acb hn M kx,cj];exact a8y hn g row (M.fold kx) (λz hz=>k z (ay _ hz)) λz hz=>e z (ay _ hz)
theorem Fw.folds{n:Nat}{α:Type}(row:α->List Nat):∀{xs:List α} {l:List Nat},Fw n l->(∀x∈xs,∀y∈row x,y<n)->Fw n (xs.foldl (λl x=>(row x).foldl stepK l) l)
 |[],_,h,_=>h
 |x::xs,l,h,k=>Fw.folds row (xs:=xs) (h.fold (k x aI)) λy hy=>k y (ay _ hy)
theorem acd{y:Nat}{α:Type}(row:α->List Nat):∀{xs:List α} {l:List Nat},y∈xs.foldl (λl x=>(row x).foldl stepK l) l↔y∈l\/∃x∈xs,y∈row x
 |[],l=>by simp
 |x::xs,l=>by
  rw [dH,acd row (xs:=xs),a2u]
  constructor
  .rintro ((h|h)|⟨z,hz,h⟩)
   .exact .inl h
   .exact .inr ⟨x,aI,h⟩
   .exact .inr ⟨z,ay _ hz,h⟩
  .rintro (h|⟨z,hz,h⟩)
   .exact .inl (.inl h)
   .rcases aC.mp hz with rfl|hz
    .exact .inl (.inr h)
    .exact .inr ⟨z,hz,h⟩
theorem afq{fi fj:SI}{ix:List Nat}{τ:Sd}{h:Hd}{α:Type}(g:α->D)(xs:List α)(row:α->List Nat){n:Nat}(hn:n<=60)(e:fi τ h=.ok ⟨xs.map g,λ_=>True⟩ h)
  (ej:∀x∈xs,fj (some (g x)::none::frs' ix τ) h=.ok ⟨(row x).map bc,λ_=>True⟩ h) (lt:∀x∈xs,∀y∈row x,y<n) :
  ∃ts:List Nat,Fw n ts/\ts.Pairwise (·<=·)/\(∀y,y∈ts↔∃x∈xs,y∈row x)/\ajq fi fj (sV 1) ix τ h=.ok (.ref h.length) (h++[.lst (ts.map bc)]):=by
 obtain ⟨m,em,pm,sm⟩:=a5l (xs.foldl (λl x=>(row x).foldl stepK l) []);have F:=Fw.folds row (l:=[]) (n:=n) .nil lt;refine ⟨m,⟨pm.nodup_iff.mpr F.nd,λx hx=>F.lt x (pm.mem_iff.mp hx)⟩,sm,λy=>?_,?_⟩
 .rw [pm.mem_iff,acd];simp
 .unfold ajq;rw [e,cj];dsimp only;have:=a8y hn (fj:=fj) (rd:=frs' ix τ) (h:=h) g row (xs:=xs) (l:=[]) .nil lt ej;rw [show cst []=([]:List Int) from rfl] at this
  rw [this,cj];unfold agy;have fl:=F.len;rw [aE (by unfold cst;rw [ax];omega),em,<-aac]
end MI
namespace ENG
open L2 MI
abbrev Rl:=Nat->Nat->Prop
open Classical in
def fl(n:Nat)(R:Rl)(a:Nat):List Nat:=(List.range (n+1)).filter λe=>decide (R a e)
theorem jx{n a e:Nat}{R:Rl}:e∈fl n R a↔e<=n/\R a e:=by
 unfold fl;simp only [fJ,bE,decide_eq_true_eq];exact ⟨λ⟨h1,h2⟩=>⟨by omega,h2⟩,λ⟨h1,h2⟩=>⟨by omega,h2⟩⟩
theorem aad{n a:Nat}{R:Rl}:∀e∈fl n R a,e<n+1:=λe h=>by have:=(jx.mp h).1;omega
theorem ax7{n a:Nat}{R:Rl}:(fl n R a).Nodup:=List.Pairwise.filter _ List.nodup_range
theorem akq{n a:Nat}{R:Rl}:(fl n R a).Pairwise (·<=·):=by
 refine List.Pairwise.filter _ ?_;exact (List.pairwise_lt_range (n:=n+1)).imp λh=>dO h
theorem a2i{n a:Nat}{R:Rl}:(fl n R a).length<=n+1:=by
 have:=List.length_filter_le (λe=>@decide (R a e) (Classical.propDecidable _)) (List.range (n+1))
 rw [aF] at this;exact this
theorem a1w{n a:Nat}{R:Rl}{ts:List Nat}(nd:ts.Nodup)(st:ts.Pairwise (·<=·))(m:∀e,e∈ts↔e<=n/\R a e):ts=fl n R a:=by
 have p:ts.Perm (fl n R a):=(List.perm_ext_iff_of_nodup nd ax7).mpr λe=>by rw [m,jx]
 exact p.eq_of_pairwise (λx y _ _ h1 h2=>Nat.le_antisymm h1 h2) st akq
theorem adn{n a b:Nat}{R T:Rl}(h:∀e,e<=n->(R a e↔T b e)):fl n R a=fl n T b:=a1w ax7 akq λe=>by
 rw [jx]
 constructor
 .rintro ⟨h1,h2⟩;exact ⟨h1,(h e h1).mp h2⟩
 .rintro ⟨h1,h2⟩;exact ⟨h1,(h e h1).mpr h2⟩
def rw_(n:Nat)(R:Rl):List (List Nat):=(List.range (n+1)).map (fl n R)
theorem azm{n a:Nat}{R:Rl}(h:a<=n):(rw_ n R)[a]? = some (fl n R a):=by
 unfold rw_;rw [aN,dI (by omega)]
 rfl
def cmp(P R:Rl):Rl:=λa e=>∃b,P a b/\R b e
def chn(Rs:List Rl):Rl:=Rs.foldl cmp (· = ·)
theorem a4q(Rs:List Rl)(R:Rl):chn (Rs++[R])=cmp (chn Rs) R:=by unfold chn;rw [List.foldl_append];rfl
def pw(R:Rl):Nat->Rl
 |0=>(· = ·)
 |k+1=>cmp (pw R k) R
def star(R:Rl):Rl:=λa e=>∃k,pw R k a e
def upto(R:Rl)(j:Nat):Rl:=λa e=>∃k,k<=j/\pw R k a e
def btw(R:Rl)(lo hi:Nat):Rl:=λa e=>∃k,lo<=k/\k<=hi/\pw R k a e
def Bd(n:Nat)(R:Rl):Prop:=∀a e,R a e->a<=n->a<=e/\e<=n
theorem ax8{n:Nat}:Bd n (· = ·):=λa e h ha=>by subst h;exact ⟨aA _,ha⟩
theorem apm{n:Nat}{P R:Rl}(p:Bd n P)(r:Bd n R):Bd n (cmp P R):=λa e ⟨b,h1,h2⟩ ha=>by
 obtain ⟨q1,q2⟩:=p a b h1 ha;obtain ⟨q3,q4⟩:=r b e h2 q2;exact ⟨by omega,q4⟩
theorem akr{n:Nat}:∀{Rs:List Rl} {P:Rl},Bd n P->(∀R∈Rs,Bd n R)->Bd n (Rs.foldl cmp P)
 |[],_,p,_=>p
 |R::Rs,_,p,h=>akr (Rs:=Rs) (apm p (h R aI)) λT hT=>h T (ay _ hT)
theorem a7y{n:Nat}{Rs:List Rl}(h:∀R∈Rs,Bd n R):Bd n (chn Rs):=akr ax8 h
theorem ahd{n:Nat}{R:Rl}(r:Bd n R):∀k,Bd n (pw R k)
 |0=>ax8
 |k+1=>apm (ahd r k) r
theorem ado{n:Nat}{R:Rl}(r:Bd n R):Bd n (star R):=λa e ⟨k,h⟩ ha=>ahd r k a e h ha
theorem ax9{n lo hi:Nat}{R:Rl}(r:Bd n R):Bd n (btw R lo hi):=λa e ⟨k,_,_,h⟩ ha=>ahd r k a e h ha
theorem a7z{R:Rl}:∀(k:Nat) {a e:Nat},cmp R (pw R k) a e↔pw R (k+1) a e
 |0,a,e=>by
  constructor
  .rintro ⟨b,h,rfl⟩;exact ⟨a,rfl,h⟩
  .rintro ⟨b,rfl,h⟩;exact ⟨e,h,rfl⟩
 |k+1,a,e=>by
  constructor
  .rintro ⟨b,h,c,h1,h2⟩;exact ⟨c,(a7z k).mp ⟨b,h,h1⟩,h2⟩
  .rintro ⟨c,h1,h2⟩
   obtain ⟨b,h,h3⟩:=(a7z k).mpr h1;exact ⟨b,h,c,h3,h2⟩
theorem ace{n:Nat}{R:Rl}(r:Bd n R){a e:Nat}(ha:a<=n):star R a e↔e=a\/∃b,a<b/\R a b/\star R b e:=by
 constructor
 .rintro ⟨k,h⟩
  induction k with
  |zero=>exact .inl h.symm
  |succ k ih =>
   obtain ⟨b,h1,h2⟩:=(a7z k).mpr h;have:=(r a b h1 ha).1
   by_cases q:a=b
   .subst q;exact ih h2
   .exact .inr ⟨b,by omega,h1,k,h2⟩
 .rintro (rfl|⟨b,_,h1,k,h2⟩)
  .exact ⟨0,rfl⟩
  .exact ⟨k+1,(a7z k).mp ⟨b,h1,h2⟩⟩
theorem a80{R:Rl}{j a e:Nat}:upto R (j+1) a e↔upto R j a e\/∃b,upto R j a b/\R b e:=by
 constructor
 .rintro ⟨k,hk,h⟩
  by_cases q:k<=j
  .exact .inl ⟨k,q,h⟩
  .have:k=j+1:=by omega
   subst this;obtain ⟨b,h1,h2⟩:=h;exact .inr ⟨b,⟨j,aA _,h1⟩,h2⟩
 .rintro (⟨k,hk,h⟩|⟨b,⟨k,hk,h⟩,h2⟩)
  .exact ⟨k,by omega,h⟩
  .exact ⟨k+1,by omega,b,h,h2⟩
theorem aod{R:Rl}{j a:Nat}(c:∀b e,upto R j a b->R b e->upto R j a e){e:Nat}:star R a e↔upto R j a e:=by
 constructor
 .rintro ⟨k,h⟩
  induction k generalizing e with
  |zero=>exact ⟨0,bq _,h⟩
  |succ k ih =>
   obtain ⟨b,h1,h2⟩:=h;exact c b e (ih h1) h2
 .rintro ⟨k,_,h⟩;exact ⟨k,h⟩
end ENG
namespace MI
open L2 SRC HND
theorem a2j:∀(r l:List Nat),(cst r).foldl stepK (cst l)=cst (r.foldl stepK l)
 |[],l=>rfl
 |x::r,l=>by
  show (cst r).foldl stepK (stepK (cst l) (x:Int))=_;rw [aca];exact a2j r _
theorem a4r{l:List Nat}{d:D}{n:Nat}(hn:n<=60)(lt:∀y∈l,y<n)(ll:l.length<=4000){h:Hd}(e:a7o d h=some (cst l)) :
  ∃ts:List Nat,Fw n ts/\ts.Pairwise (·<=·)/\(∀y,y∈ts↔y∈l)/\a7p d h=.ok (.ref h.length) (h++[.lst (ts.map bc)]):=by
 obtain ⟨m,em,pm,sm⟩:=a5l (l.foldl stepK []);have F:Fw n (l.foldl stepK []):=Fw.fold .nil lt;refine ⟨m,⟨pm.nodup_iff.mpr F.nd,λx hx=>F.lt x (pm.mem_iff.mp hx)⟩,sm,λy=>?_,?_⟩
 .rw [pm.mem_iff,a2u];simp
 .unfold a7p;rw [e];have fl:=F.len;have cl:(cst l).length<=4000:=by unfold cst;rw [ax];exact ll
  simp only [aE cl];have:(cst l).foldl stepK []=cst (l.foldl stepK []):=a2j l [];rw [this];unfold agy;rw [aE (by unfold cst;rw [ax];omega),em,<-aac]
theorem a81:∀l:List Nat,a9e (l.map bc)=some (cst l)
 |[]=>rfl
 |x::l=>by
  show (a9e (l.map bc)).map _=_;rw [a81 l];rfl
theorem a1a(l:List Nat)(h:Hd):a7o (.rol (l.map bc)) h=some (cst l):=a81 l
theorem afr(h:Hd):∀zss:List (List D),a03 (λd=>ur d h) (zss.map D.rol)=some zss
 |[]=>rfl
 |z::zss=>by
  rw [aT,a03,afr h zss];rfl
theorem afs{f g:SE}{τ:Sd}{h:Hd}{zss:List (List D)}(e1:f τ h=.ok (.rol (zss.map D.rol)) h)(e2:g τ h=.ok (.rol []) h)(ll:zss.flatten.length<=LINE)(c:clos h.length zss.flatten)(ch:∀o∈h,ux h.length o):sZ (sA ah0 (aj f (aj g bz))) τ h=.ok (.rol zss.flatten) h:=by
 have e3:ah0 [.rol (zss.map D.rol),.rol []] h=if zss=[] then .ok (.rol []) h else .ok (.ref h.length) (h++[.lst zss.flatten]):=by
  have e4:=afr h zss;show (match a03 (λd=>ur d h) (zss.map D.rol) with
   |some zss'=>if ([]++zss'.flatten).length<=LINE then (if zss.map D.rol=[] then R.ok (D.rol []) h else .ok (.ref h.length) (h++[O.lst ([]++zss'.flatten)])) else .no
   |none=>.no)=_
  rw [e4];simp only [cr];rw [aE ll]
  by_cases z:zss=[]
  .subst z;rfl
  .rw [aS (by simpa using z),aS z]
 by_cases z:zss=[]
 .rw [aE z] at e3;subst z;exact az6 (ul e1 e2 e3) (qm gf) ch
 .rw [aS z] at e3;exact zx (ul e1 e2 e3) c ch
end MI
namespace PN
open L2 MI AT HND EVX
local macro_rules|`(tactic|walk_at "ev") => `(tactic|simp only [yj,a5u,aex,abm,aey,n6,axv,amu,sIf,o9,a8c,aej,put,amz,aek,aba,xj,ack,kN,sV,sC,s2,s1,sA,aj,bz,sNx,sT,asB,aas,ug,aa6,aa7,aa8,aa9,a8m,sOr,a8b,a3o,axu,ab9,sCh,ahi,cj,a7b,MI.a6q,MI.ac3,MI.ac4,avm,a2n,gLt,gGt,gGe,gLe,ah9,aha,ao6,ao7,afk,a4p,ao8,a6f,axz,ay0,ay1,ay2,afi,MI.a8h,acw,aii,afj,AT.anc,AT.p18,aa2,aa3,aa4,agg,aa5,a5t,abg,ami,MI.ww,MI.uz,sML,isL,alv,oN,oS,a2a,ur,sIt,aqv,sRg,ax,aH,bH,av,cT,eF,cW,dQ,cr,dN,AT.an4,AT.an5,AT.an6,AT.an7,AT.an8,AT.an9,AT.ana,AT.anb,AT.x10,AT.x20,AT.x21,AT.x30,AT.x31,AT.x32,AT.x40,AT.x41,AT.x42,AT.x43,AT.x50,AT.x51,AT.x52,AT.x53,AT.x54,AT.x60,AT.x61,AT.x62,AT.x63,AT.x64,AT.x65,AT.x70,AT.x71,AT.x72,AT.x73,AT.x74,AT.x75,AT.x76,fD,eQ,reduceIte,iA,eW,eV,hX,iX,iP,iO,cJ,Nat.reduceAdd,Nat.reduceLeDiff,Nat.reduceLT,Nat.reducePow,Int.reduceLT,Int.reduceLE,Int.reduceNeg,Int.reduceEq,Int.reduceBEq,bi,fP,ite_true,ite_false,db,dC, *])
structure Pen (o:O) (N:Nat):Prop where
 ex:∃(cells:List Int) (a l:Int),o=.lst [.rol (cells.map D.int),.int a,.int l]/\0<=a/\a<=N/\0<=l
theorem Pen.clo(P:Pen o N):ux 0 o:=by
 obtain ⟨cells,a,l,rfl,_⟩:=P.ex;exact bh (qm (gw λx _=>dw x)) (bh (dw _) (bh (dw _) gf))
theorem Pen.up(P:Pen o N)(h:N<=M):Pen o M:=by
 obtain ⟨cells,a,l,e,h1,h2,h3⟩:=P.ex;exact ⟨cells,a,l,e,h1,by omega,h3⟩
def az:SF:=qb a5e 7
theorem aks(P:Pen o N)(hN:N<=1000000000)(m0:0<m)(m1:m<1073741824):∃r o',az [.ref 0,.int m] [o]=.ok (.int r) [o']/\0<=r/\r<m/\Pen o' (N+1):=by
 obtain ⟨cells,a,l,rfl,a0,a1,l0⟩:=P.ex;unfold az;rw [jf];unfold a5e a4b;simp only [aT,dD,aH,bH,Nat.reduceSub,Nat.reduceAdd,List.replicate,dN,cr];have k3:(0<m/\m<1073741824)=True:=by simp [m0,m1]
 have k3':(0<m)=True:=by simp [m0]
 by_cases hl:0<l
 .have kl:decide (0<l)=true:=c8 hl;refine ⟨l%m,_,?_,fQ _ (by omega),eJ _ m0,⟨cells,a,l / m,rfl,a0,by omega,Int.ediv_nonneg (by omega) (by omega)⟩⟩
  walk_at "ev"
 .have:l=0:=by omega
  subst this;have last:∀c:Int,∃r q q2,0<=r/\r<m/\(c%2147483587+40709*a+31)^(3:Int).toNat%2147483647=q/\(q*q+48271*q+a)%2147483629=q2/\q2 / 64%m=r/\CMul 40709 a/\CMul q q/\CMul 48271 q /\
    (∀h,aij (.int (c%2147483587+40709*a+31)) (.int 3) h=.ok (.int ((c%2147483587+40709*a+31)^(3:Int).toNat)) h):=λc=>by
   have p0:0<=c%2147483587:=fQ _ (by decide)
   have p1:c%2147483587<2147483587:=eJ _ (by decide)
   have q0:0<=(c%2147483587+40709*a+31)^(3:Int).toNat%2147483647:=fQ _ (by decide)
   have q1:(c%2147483587+40709*a+31)^(3:Int).toNat%2147483647<2147483647:=eJ _ (by decide)
   refine ⟨_,_,_,fQ _ (by omega),eJ _ m0,rfl,rfl,rfl,.inl ⟨by decide,by decide⟩,.inl ⟨by omega,by omega⟩,.inl ⟨by decide,by decide⟩,λh=>az8 ⟨by decide,by decide,by omega⟩⟩
  obtain ⟨n,rfl⟩:=aU a0
  by_cases hc:0<(cells.length:Int)
  .have kc:decide (0<(cells.length:Int))=true:=c8 hc;have ic:(0<(cells.length:Int))=True:=by simpa using hc
   have im:((n:Int)%(cells.length:Int))=((n%cells.length:Nat):Int):=by omega
   have hj:n%cells.length<cells.length:=fI _ (by omega)
   have hat:atI (cells.map D.int) ((n%cells.length:Nat):Int)=some (.int cells[n%cells.length]):=ye (by simp [hj])
   generalize cells[n%cells.length]=x at hat
   by_cases hA:(n:Int)<(cells.length:Int)
   .have ka:decide ((n:Int)<(cells.length:Int))=true:=c8 hA
    by_cases hB:(1000000000000000000:Int)<=ap9 x
    .have kb:decide ((1000000000000000000:Int)<=ap9 x)=true:=c8 hB;have cm:CMul 2 (ap9 x):=.inl ⟨by decide,by decide⟩
     have g0:0<=2*ap9 x+(if decide (x<0)=true then 1 else 0):=by split<;>omega
     refine ⟨(2*ap9 x+(if decide (x<0)=true then 1 else 0))%m,_,?_,fQ _ (by omega),eJ _ m0,⟨cells,(n:Int)+1,(2*ap9 x+(if decide (x<0)=true then 1 else 0)) / m,rfl,by omega,by omega,Int.ediv_nonneg g0 (by omega)⟩⟩
     walk_at "ev"
    .have kb:decide ((1000000000000000000:Int)<=ap9 x)=false:=aY hB;obtain ⟨r,q,q2,r0,r1,eq,eq2,er,d1,d2,d3,d4⟩:=last x;refine ⟨r,_,?_,r0,r1,⟨cells,(n:Int)+1,0,rfl,by omega,by omega,by omega⟩⟩
     walk_at "ev"
   .have ka:decide ((n:Int)<(cells.length:Int))=false:=aY hA;obtain ⟨r,q,q2,r0,r1,eq,eq2,er,d1,d2,d3,d4⟩:=last x;refine ⟨r,_,?_,r0,r1,⟨cells,(n:Int)+1,0,rfl,by omega,by omega,by omega⟩⟩
    walk_at "ev"
  .have kc:decide (0<(cells.length:Int))=false:=aY hc;have ka:decide ((n:Int)<(cells.length:Int))=false:=aY (by omega)
   obtain ⟨r,q,q2,r0,r1,eq,eq2,er,d1,d2,d3,d4⟩:=last 5;refine ⟨r,_,?_,r0,r1,⟨cells,(n:Int)+1,0,rfl,by omega,by omega,by omega⟩⟩
   walk_at "ev"
theorem p7(P:Pen o N)(hN:N<=1000000000)(m0:0<m)(m1:m<1073741824):∃r o',Dr az 2 [.int m] o (.int r) o'/\0<=r/\r<m/\Pen o' (N+1):=by
 obtain ⟨r,o',e,r0,r1,P'⟩:=aks P hN m0 m1;refine ⟨r,o',Dr.of rfl (by simp [dw]) P.clo e (a0c (dw _) ?_) (dw _) P'.clo,r0,r1,P'⟩
 intro u hu
 simp at hu
 subst hu;exact a5d (by omega) P'.clo
def my:SF:=qb a4f 1
theorem axa(ns:List Int)(h:Hd):∃o,Pen o 0/\kj true 1 my [.scr (ns.map D.int)] h=.ok (.ref h.length) (h++[o]):=by
 have cl:clos 0 ((ns.take 63).map D.int):=gw λx _=>dw x;have z1:sZ (a2a (sV 0) oN (oS (sC (.int 63)))) [some (.scr (ns.map D.int))] []=.ok (.rol ((ns.take 63).map D.int)) []:=by
  refine zx (by
   show gSl (.scr (ns.map D.int)) none (some ((63:Nat):Int)) []=_;unfold gSl;simp only [a9b,List.map_take]) cl (by simp)
 have e:my [.scr (ns.map D.int)] []=.ok (.ref 0) [.lst [.rol ((ns.take 63).map D.int),.int 0,.int 0]]:=by
  unfold my;rw [jf];show toR (a4f [some (.scr (ns.map D.int))] [])=_;unfold a4f;exact ah toR (jd (ax3 z1 (gk _ _ _) (gk _ _ _) rfl))
 have P:Pen (.lst [.rol ((ns.take 63).map D.int),.int 0,.int 0]) 0:=⟨_,0,0,rfl,by decide,by decide,by decide⟩
 exact ⟨_,P,avu rfl (by simpa [MI.clo] using (gw λx _=>dw x:clos 0 (ns.map D.int))) e rfl P.clo h⟩
def ji:SF:=qb a06 1
theorem aaa:Pu ji 0 [] (.str (S sig)):=HND.aaa
end PN
namespace SRC
open L2 MI AT HND EVX
end SRC
namespace K21
open L2 MI
end K21
namespace K23
open L2 MI
end K23
namespace K22
open L2 MI
end K22
namespace K22
open L2 MI AT HND
section
variable(T:Table)
def knd(r:Nat):Bool:=decide ((T.ks[r]?).getD (-1) ≠ -1)
end
end K22
namespace K23
open L2 MI AT HND K22
end K23
namespace K21
open L2 MI AT HND K22 K23 EVX
section
variable{T:Table}
theorem azn(ha:MI.clo 0 a)(hb:MI.clo 0 b):∀x∈[a,b],MI.clo 0 x:=by
 intro x hx
 simp only [aC,bA,e9] at hx
 rcases hx with rfl|rfl
 .exact ha
 .exact hb
end
end K21
namespace SRC
open L2 MI AT HND EVX K22 K23 K21
end SRC
namespace PN
open L2 MI AT HND EVX K22 K23 K21
local macro_rules|`(tactic|walk_at "ev") => `(tactic|simp only [yj,a5u,aex,abm,aey,n6,axv,amu,sIf,o9,a8c,aej,put,amz,aek,aba,xj,ack,kN,sV,sC,s2,s1,sA,aj,bz,sNx,sT,asB,aas,ug,aa6,aa7,aa8,aa9,a8m,sOr,a8b,a3o,axu,ab9,sCh,ahi,cj,a7b,MI.a6q,MI.ac3,MI.ac4,avm,a2n,gLt,gGt,gGe,gLe,ah9,aha,ao6,ao7,afk,a4p,ao8,a6f,axz,ay0,ay1,ay2,afi,MI.a8h,acw,aii,afj,AT.anc,AT.p18,aa2,aa3,aa4,agg,aa5,a5t,abg,ami,MI.ww,MI.uz,sML,isL,alv,oN,oS,a2a,ur,sIt,aqv,sRg,a8o,v4,abb,avs,avr,arn,ad1,axw,srcOf,  ax,aH,bH,av,cT,eF,cW,dQ,cr,dN,AT.an4,AT.an5,AT.an6,AT.an7,AT.an8,AT.an9,AT.ana,AT.anb,AT.x10,AT.x20,AT.x21,AT.x30,AT.x31,AT.x32,AT.x40,AT.x41,AT.x42,AT.x43,AT.x50,AT.x51,AT.x52,AT.x53,AT.x54,AT.x60,AT.x61,AT.x62,AT.x63,AT.x64,AT.x65,AT.x70,AT.x71,AT.x72,AT.x73,AT.x74,AT.x75,AT.x76,fD,eQ,reduceIte,iA,eW,eV,hX,iX,iP,iO,cJ,Nat.reduceAdd,Nat.reduceLeDiff,Nat.reduceLT,Nat.reducePow,Int.reduceLT,Int.reduceLE,Int.reduceNeg,Int.reduceEq,Int.reduceBEq,bi,fP,ite_true,ite_false,db,dC, *])
def iy:SF:=qb (a5f az) 6
theorem akt{all:List Nat}(P:Pen o N)(hN:N<=999999000)(m1:1<=most)(m2:most<=all.length)(al:all.length<=95)(nd0:all.Nodup) :
  ∃l o',1<=l.length/\l.length<=most/\l.Nodup/\(∀c∈l,c∈all)/\Dr iy 3 [.str (S all),bc most] o (.str (S l)) o'/\Pen o' (N+1+most):=by
 obtain ⟨r0,o1,e1,r0a,r0b,P1⟩:=p7 (m:=(most:Int)) P (by omega) (by omega) (by omega)
 have lo:=vy (g:=kN 4) (b:=zy az) (λi:Nat=>D.int (0+(i:Nat)))
  (λpre τ h=>∃(rest told:List Nat) (u:O) (t4 t5:Option D),τ=[some (.ref 0),some (.str (S rest)),some (bc most),some (.str (S told)),t4,t5]/\h=[u]/\Pen u (N+1+pre.length)/\told.length=pre.length/\(told++rest).length=all.length/\(told++rest).Nodup/\∀c∈told++rest,c∈all)
  (List.range (1+r0).toNat) [some (.ref 0),some (.str (S all)),some (bc most),some (.str (S [])),none,none] [o1] ?_
  ⟨all,[],o1,none,none,rfl,rfl,P1,rfl,by simp,by simpa using nd0,by simp⟩
 .obtain ⟨τ',h',e2,rest,told,u,t4,t5,rfl,rfl,P2,l1,l2,nd,sb⟩:=lo;rw [aF] at P2 l1;refine ⟨told,u,by omega,by omega,(bQ.mp nd).1,λc hc=>sb c (dn _ hc),Dr.of rfl (azn (j5 _) (dw _)) P.clo (r:=.ok (.str (S told)) [u]) ?_ (a0c (j5 _) (by simpa using a5d (by omega) P2.clo)) (j5 _) P2.clo,P2.up (by omega)⟩
  unfold iy;rw [jf];unfold a5f a4b;simp only [aT,dD,aH,bH,Nat.reduceSub,Nat.reduceAdd,List.replicate,dN,cr];have c2:kj false 2 az [.ref 0,.int (most:Nat)] [o]=_:=e1 0 [o] rfl;have em:("" : Str)=S []:=rfl;have bd:B62 (1+r0):=by unfold B62;omega
  have e2:forL (λ_=>True) (kN 4) (zy az) (rng 0 (1+r0).toNat) [some (D.ref 0),some (D.str (S all)),some (bc most),some (D.str (S [])),none,none] [o1]=_:=e2
  walk_at "ev"
 .rintro pre i post τ h al' ⟨rest,told,u,t4,t5,rfl,rfl,P2,l1,l2,nd,sb⟩
  have hlen:pre.length<(1+r0).toNat:=by
   have:=ah List.length al'
   simp at this;omega
  rw [av] at l2;obtain ⟨r,u',e2,ra,rb,P3⟩:=p7 (m:=(rest.length:Nat)) P2 (by omega) (by omega) (by omega)
  obtain ⟨j,rfl⟩:=aU ra;have hj:j<rest.length:=by omega
  have gx:rest[j]? = some rest[j]:=ag hj;have pp:=aki told rest j rest[j] gx;refine ⟨_,_,rfl,_,_,?_,rest.take j++rest.drop (j+1),told++[rest[j]],u',some (.int (0+(i:Nat))),some (.int (j:Nat)),rfl,rfl,by simpa [Nat.add_assoc] using P3,by simp [l1],?_,pp.nodup_iff.mp nd,λc hc=>sb c (pp.mem_iff.mpr hc)⟩
  .unfold zy;have L:∀n:Nat,n<=95->n<=LINE:=λn hn=>by show n<=16777216;omega
   have c2:=e2 0 [u] rfl;have x1:∀h,gIx (.str (S rest)) (.int (j:Nat)) h=.ok (.str (S [rest[j]])) h:=λh=>asm (L _ (by omega)) gx
   have x2:∀h,qu [.str (S rest)] h=.ok (.int rest.length) h:=λh=>a4o (L _ (by omega))
   have x3:∀h,jo (.str (S told)) (.str (S [rest[j]])) h=.ok (.str (S (told++[rest[j]]))) h:=λh=>akg (L _ (by simp;omega))
   have x4:∀h,abl (.str (S rest)) none (some (j:Int)) h=.ok (.str (S (rest.take j))) h:=λh=>axy j (L _ (by omega))
   have x5:∀h,abl (.str (S rest)) (some ((j:Int)+1)) none h=.ok (.str (S (rest.drop (j+1)))) h:=λh=>apg (j+1) (L _ (by omega))
   have x6:∀h,jo (.str (S (rest.take j))) (.str (S (rest.drop (j+1)))) h=.ok (.str (S (rest.take j++rest.drop (j+1)))) h:=λh=>akg (L _ (by simp;omega))
   clear al' hlen
   walk_at "ev"
  .rw [<-pp.length_eq];simpa using l2
end PN
namespace EVT
open L2 MI AT HND
section
variable{f g k f1 f2 f3:SE}{ka:SA}{c c1 c2:ST}{τ:Sd}{h h1 h2 h3:Hd}{a b d v:D}{i:Nat}{t u:Bool}{xs ys ds:List D}
theorem wz:bz τ h=.ok [] h:=rfl
theorem aku:oN τ h=.ok none h:=rfl
theorem PuE(p:Pu F n ds d):kj false n F ds h=.ok d h:=p h
theorem azo(p:Dr F n ds o d o'):kj false n F (.ref 0::ds) (o::h)=.ok d (o'::h):=p 0 (o::h) rfl
theorem asr(hv:n<xs.length):gIx (.rol xs) (.int (n:Nat)) h=.ok (xs.getD n .non) h:=afn (by rw [c9,ag hv];rfl)
theorem ass(hv:n<xs.length):gIx (.tup xs) (.int (n:Nat)) h=.ok (xs.getD n .non) h:=aoa (by rw [c9,ag hv];rfl)
theorem uh:qu [.tup xs] h=.ok (bc xs.length) h:=rfl
theorem a8z:qu [.rol xs] h=.ok (bc xs.length) h:=rfl
theorem b0w(e:c τ h=.ok true h1)(e':f τ h1=.ok d h2):ahi c f g τ h=.ok d h2:=by unfold ahi;rw [e,cj,aE rfl,e']
theorem azp(e:c τ h=.ok false h1)(e':g τ h1=.ok d h2):ahi c f g τ h=.ok d h2:=by unfold ahi;rw [e,cj,aS (by simp),e']
theorem akv(e:f τ h=R.ok (D.ref h1.length) (h1++[.lst xs]))(hl:h1.length=h.length)(cx:clos 0 xs)(co:∀o∈h1,ux 0 o):sZ f τ h=.ok (.rol xs) h1 :=
 PAP.afo hl e (a0h (bq _) cx) λo ho=>a5d (bq _) (co o ho)
theorem ut(e:ka τ h=.ok ds h1)(hl:h1.length=h.length)(cd:clos 0 ds)(co:∀o∈h1,ux 0 o)(z:ds.length<=1000000):sZ (sA MI.uz ka) τ h=.ok (.rol ds) h1:=by
 refine akv ?_ hl cd co;unfold sA;rw [e,cj];unfold MI.uz;exact aE (du z)
theorem adp(e:f τ h=.ok (.tup xs) h1)(hl:h1.length=h.length)(cd:clos 0 xs)(co:∀o∈h1,ux 0 o):sZ (sA ave (aj f bz)) τ h=.ok (.rol xs) h1:=akv (tu e rfl) hl cd co
theorem adq(e:f τ h=.ok (.str (S l)) h1)(hl:h1.length=h.length)(co:∀o∈h1,ux 0 o)(z:l.length<=1000000):sZ (sA ave (aj f bz)) τ h=.ok (.rol (l.map λc=>.str (S [c]))) h1:=by
 refine akv (tu e ?_) hl (gw λ_ _=>j5 _) co;show (if (S l).length<=LINE then R.ok (D.ref h1.length) (h1++[O.lst (a1z (S l))]) else R.no)=_
 rw [aE (du (by rw [aa1];exact z))]
 unfold a1z;rw [aa0]
theorem aft(e1:f τ h=.ok (.rol xs) h1)(e2:g τ h1=.ok (.rol ys) h2)(hl:h2.length=h.length)(c1:clos 0 xs)(c2:clos 0 ys)(co:∀o∈h2,ux 0 o)(z:xs.length+ys.length<=1000000):sZ (s2 jo f g) τ h=.ok (.rol (xs++ys)) h2:=by
 refine akv (ig e1 e2 ?_) hl (lu.mpr λx hx=>(aZ.mp hx).elim (lu.mp c1 x) (lu.mp c2 x)) co;rw [ad3 (xs:=xs) (ys:=ys) rfl rfl,aE (du z)]
theorem acf{k:Int}(e1:f τ h=.ok (.rol xs) h1)(e2:g τ h1=.ok (.int k) h2)(hl:h2.length=h.length)(c1:clos 0 xs)(co:∀o∈h2,ux 0 o)(z:xs.length*k.toNat<=1000000)(zn : -1000000<=k/\k<=1000000):sZ (s2 a1h f g) τ h=.ok (.rol (List.replicate k.toNat xs).flatten) h2:=by
 refine akv (ig e1 e2 ?_) hl (lu.mpr λx hx=>?_) co
 .have:a1h (.rol xs) (.int k) h2=if (-(2^63)<=k/\k<2^63)/\xs.length*k.toNat<=LINE then .ok (.ref h2.length) (h2++[.lst (List.replicate k.toNat xs).flatten]) else .no:=rfl
  rw [this,aE ⟨by omega,du z⟩]
 .obtain ⟨l,hl,hx⟩:=gH.mp hx;rw [(fR.mp hl).2] at hx;exact lu.mp c1 x hx
theorem a65(co:∀o∈h,ux 0 o):sZ ar7 τ h=.ok (.rod [] []) h:=by
 unfold sZ;show a9j h.length (.ok (.ref h.length) (h++[.dK []]))=_;rw [a7d (d':=.rod [] []) ?_ ?_]
 .simp
 .unfold FU a88;rw [aS (by simp only [MI.clo];omega)]
  simp [a03]
 .simp only [iN];exact λo ho=>a5d (bq _) (co o ho)
theorem adt:(List.replicate n xs).flatten.length=n*xs.length:=by simp
theorem a2v(c1:clos i xs)(c2:clos i ys):clos i (xs++ys):=lu.mpr λx hx=>(aZ.mp hx).elim (lu.mp c1 x) (lu.mp c2 x)
theorem a4s(c:clos i xs):clos i (xs.take n):=lu.mpr λx hx=>lu.mp c x (eZ hx)
theorem a4t(c:clos i xs):clos i (xs.drop n):=lu.mpr λx hx=>lu.mp c x (List.mem_of_mem_drop hx)
theorem aae(c:clos i xs):clos i (List.replicate n xs).flatten:=lu.mpr λx hx=>by
 obtain ⟨l,hl,hx⟩:=gH.mp hx;rw [(fR.mp hl).2] at hx;exact lu.mp c x hx
theorem aaf(c:clos i xs):clo i (xs.getD n .non):=by
 rw [c9]
 cases e:xs[n]? with
 |none=>exact a05
 |some x=>exact lu.mp c x (bv e)
theorem aag:clo i (.rod [] []):=by simp [clo,clos]
theorem adu:∀u∈([]:List O),ux 0 u:=λu hu=>by cases hu
theorem a3u(c:ux 0 o):∀u∈[o],ux 0 u:=λu hu=>by rw [aD] at hu;subst hu;exact c
end
def wth(ws:List D)(k:Nat)(d:D):List D:=ws.take k++[d]++ws.drop (k+1)
theorem aah(c:clos i ws)(cd:clo i d):clos i (wth ws k d):=a2v (a2v (a4s c) (bh cd gf)) (a4t c)
theorem axb{α:Type}(l:List α):a4v l none (some (-1))=l.take (l.length-1):=by
 unfold a4v;rw [HT.a93,fh,gz]
 congr 1
 unfold HT.sIx;simp;omega
theorem asu(ys:List D)(hh:Hd):abl (.tup ys) none (some (-1)) hh=.ok (.tup (ys.take (ys.length-1))) hh:=by rw [PAP.azk,axb]
end EVT
namespace K76
open L2 MI
end K76
namespace K76
open L2 MI AT HND
theorem axc:∀ls:List (List Nat),Txt.join (S []) (ls.map S)=S ls.flatten:=by
 have e:∀zs:List Str,Txt.join (S []) zs=Str.join (S []) zs:=PySem.StrLaws.glued_eq_join (S []);have st:∀(x y:Str) (r:List Str),Str.join (S []) (x::y::r)=x++S []++Str.join (S []) (y::r):=λ_ _ _=>rfl
 intro ls
 rw [e]
 induction ls with
 |nil=>rfl
 |cons l ls ih =>
  cases ls with
  |nil=>rw [aT,dD,bb,List.flatten_nil,bL];rfl
  |cons m ls =>
   rw [aT,aT,st,<-aT,ih,asl,asl,bL,bb (l:=l)]
theorem apn:∀ls:List (List Nat),acz (ls.map λl=>D.str (S l))=some (ls.map S)
 |[]=>rfl
 |l::ls=>by
  show (acz (ls.map λl=>D.str (S l))).map _=_;rw [apn ls];rfl
theorem b2p(ls:List (List Nat)):((ls.map S).map (·.length)).sum=ls.flatten.length:=by
 induction ls with
 |nil=>rfl
 |cons l ls ih=>rw [aT,aT,iW,ih,bb,av,aa1]
theorem acg{ls:List (List Nat)}(z:ls.flatten.length<=1000000):a8e (.str (S [])) [.rol (ls.map λl=>.str (S l))] h=.ok (.str (S ls.flatten)) h:=by
 unfold a8e;simp only [apn,b2p,aa1,bH,Nat.mul_zero,Nat.add_zero,axc];rw [aE (by omega)]
theorem axd(e1:f τ h=.ok (.str z) h1)(e2:k τ h1=.ok ds h2)(e3:g (.str z) ds h2=.ok v h3):sMS g f k τ h=.ok v h3:=by
 unfold sMS;rw [e1,cj];dsimp only;rw [e2,cj,e3]
end K76
local macro_rules|`(tactic|walk_at "c") => `(tactic|first|assumption|exact MI.dw _|(with_reducible exact EVT.aag)|exact MI.j5 _|exact MI.a7c _|exact MI.a05|exact MI.gf|((with_reducible apply MI.bh)<;>walk_at "c")|((with_reducible apply MI.kh);walk_at "c")|((with_reducible apply MI.qm);walk_at "c")|((with_reducible apply EVT.a2v)<;>walk_at "c")|((with_reducible apply EVT.a4s);walk_at "c")|((with_reducible apply EVT.a4t);walk_at "c")|((with_reducible apply EVT.aae);walk_at "c")|((with_reducible apply EVT.aaf);walk_at "c")|((with_reducible apply EVT.aah)<;>walk_at "c")|exact MI.gw fun _ _=>MI.dw _|exact MI.gw fun _ _=>MI.j5 _)
local macro_rules|`(tactic|walk_at "h") => `(tactic|first|assumption|exact EVT.adu|exact EVT.a3u (by assumption))
local macro_rules|`(tactic|walk_at "z") => `(tactic|first|assumption|omega|(simp only [aH,bH,av,bg,bN,ax,aK,EVT.adt,Int.reduceToNat]<;>omega))
local macro_rules|`(tactic|walk_at "l") => `(tactic|first
 |(with_reducible assumption)
 |(with_reducible exact PAP.apl)|(with_reducible exact PAP.aly)|(with_reducible exact MI.a8x)|(with_reducible exact MI.ay5)
 |(with_reducible exact EVT.uh)|(with_reducible exact EVT.a8z)
 |((with_reducible apply EVT.PuE);with_reducible assumption)
 |((with_reducible apply EVT.azo);with_reducible assumption)
 |(with_reducible exact EVT.asu _ _)|(with_reducible exact PAP.azl _ _ _)|(with_reducible exact PAP.ako _ _ _)
 |((with_reducible apply PAP.asq);walk_at "z")
 |((with_reducible apply EVT.asr);walk_at "z")
 |((with_reducible apply EVT.ass);walk_at "z")
 |(with_reducible exact MI.ac8 _ _)|(with_reducible exact MI.a7x _)|(with_reducible exact MI.ug _)
 |((with_reducible apply MI.api);walk_at "z")|((with_reducible apply MI.apj);walk_at "z")
 |((with_reducible apply MI.atl);walk_at "z")|((with_reducible apply MI.atm);walk_at "z")
 |((with_reducible apply MI.akn);walk_at "z")|((with_reducible apply MI.aob);walk_at "z")
 |((with_reducible apply MI.aab);walk_at "z")|((with_reducible apply MI.ac6);walk_at "z")
 |exact rfl)
local macro_rules|`(tactic|walk_at "x") => `(tactic|first
 |(with_reducible assumption)
 |(with_reducible exact MI.gk _ _ _)
 |((with_reducible apply MI.bw);exact rfl)
 |(with_reducible exact EVT.wz)|(with_reducible exact EVT.aku)
 |((with_reducible apply EVT.ut);walk_at "x";exact rfl;walk_at "c";walk_at "h";walk_at "z")
 |((with_reducible apply EVT.adp);walk_at "x";exact rfl;walk_at "c";walk_at "h")
 |((with_reducible apply EVT.adq);walk_at "x";exact rfl;walk_at "h";walk_at "z")
 |((with_reducible apply EVT.aft);walk_at "x";walk_at "x";exact rfl;walk_at "c";walk_at "c";walk_at "h";walk_at "z")
 |((with_reducible apply EVT.acf);walk_at "x";walk_at "x";exact rfl;walk_at "c";walk_at "h";walk_at "z";walk_at "z")
 |((with_reducible apply EVT.a65);walk_at "h")
 |((with_reducible apply MI.ig);walk_at "x";walk_at "x";walk_at "l")
 |((with_reducible apply MI.afm);walk_at "x";walk_at "l")
 |((with_reducible apply PAP.aof);walk_at "x";walk_at "l")
 |((with_reducible apply PAP.gh);walk_at "x";walk_at "x")
 |((with_reducible apply PAP.alx);walk_at "x";walk_at "x";walk_at "x";walk_at "l")
 |((with_reducible apply PAP.ahn);walk_at "x")
 |((with_reducible apply MI.tof);walk_at "x")
 |((with_reducible apply MI.a0z);walk_at "x";walk_at "l")
 |((with_reducible apply MI.ahm);walk_at "x")|((with_reducible apply MI.akk);walk_at "x")
 |((with_reducible apply MI.ahb);walk_at "x";walk_at "x")|((with_reducible apply MI.alw);walk_at "x")
 |((with_reducible apply MI.orT);walk_at "x")|((with_reducible apply MI.orF);walk_at "x";walk_at "x"))
namespace SHD
open L2 MI AT HND EVX
open PAP hiding gh aly apl a65 afo aof
def Dr2(F:SF)(n:Nat)(ds:List D)(o p:O)(d:D)(o' p':O):Prop:=∀i j h,i≠j->h[i]? = some o->h[j]? = some p->kj false n F (.ref i::.ref j::ds) h=.ok d ((h.set i o').set j p')
theorem Dr2.of{F:SF}{n:Nat}{ds:List D}{o o' p p':O}{r:R D}{d:D}(hn:ds.length+2=n)(cd:∀x∈ds,clo 0 x)(co:ux 0 o)(cp:ux 0 p)(e:F (.ref 0::.ref 1::ds) [o,p]=r)(z:a9j 2 r=.ok d [o',p'])(c:clo 0 d)(co':ux 0 o')(cp':ux 0 p'):Dr2 F n ds o p d o' p':=λi j h ne hi hj=>by
 obtain ⟨p1,_,p3⟩:=a4e cd;have e1:a1v (.ref i::.ref j::ds)=[i,j]:=by
  have:a1v (.ref i::.ref j::ds)=i::j::a1v ds:=rfl
  rw [this,p1]
 have e2:a0q 0 (.ref i::.ref j::ds)=.ref 0::.ref 1::ds:=by
  have:a0q 0 (.ref i::.ref j::ds)=.ref 0::.ref 1::a0q 2 ds:=rfl
  rw [this,p3]
 unfold kj;rw [aE (by simpa using hn)]
 unfold ati;rw [e1];simp only [a03,hi,hj,aH,bH,bi,dC,hU,Nat.reduceAdd];have all:∀x∈(D.ref i::.ref j::ds),clo 0 x\/isRef x:=λx hx=>by
  rcases aC.mp hx with rfl|hx
  .exact .inr ⟨i,rfl⟩
  rcases aC.mp hx with rfl|hx
  .exact .inr ⟨j,rfl⟩
  .exact .inl (cd x hx)
 rw [aE ⟨by simp [ne],all,λu hu=>by simp only [aC,bA,e9] at hu;rcases hu with rfl|rfl;exact co;exact cp⟩,e2,e,z]
 simp [c,co',cp',xm]
theorem azq{F:SF}{n:Nat}{ds:List D}{o o' p p':O}{d:D}{h:Hd}(q:Dr2 F n ds o p d o' p'):kj false n F (.ref 0::.ref 1::ds) (o::p::h)=.ok d (o'::p'::h):=q 0 1 (o::p::h) (by decide) rfl rfl
inductive Sh where
 |one (s:List Nat)|row (ps:List Sh)|eit (ps:List Sh)|many (p:Sh)|tim (p:Sh) (lo hi:Nat)
mutual
def sd:Sh->D
 |.one s=>.tup [.str "one",.str (S s)]
 |.row ps=>.tup [.str "row",.tup (sds ps)]
 |.eit ps=>.tup [.str "either",.tup (sds ps)]
 |.many p=>.tup [.str "many",sd p]
 |.tim p lo hi=>.tup [.str "times",sd p,bc lo,bc hi]
def sds:List Sh->List D
 |[]=>[]
 |p::ps=>sd p::sds ps
end
theorem qt:∀ps,sds ps=ps.map sd
 |[]=>by rw [sds];rfl
 |p::ps=>by rw [sds,qt ps];rfl
def a3g(tg:List Nat):Nat->Sh->Prop
 |0,_=>False
 |n+1,s=>match s with
  |.one s=>1<=s.length/\s.length<=6/\∀c∈s,c∈tg
  |.row ps=>ps.length<=6/\∀p∈ps,a3g tg n p
  |.eit ps=>1<=ps.length/\ps.length<=6/\∀p∈ps,a3g tg n p
  |.many p=>a3g tg n p
  |.tim p lo hi=>lo<=hi/\hi<=4/\a3g tg n p
mutual
theorem vo:∀p,MI.clo 0 (sd p)
 |.one s=>by rw [sd];exact kh (bh (j5 _) (bh (j5 _) gf))
 |.row ps=>by rw [sd];exact kh (bh (j5 _) (bh (kh (a5m ps)) gf))
 |.eit ps=>by rw [sd];exact kh (bh (j5 _) (bh (kh (a5m ps)) gf))
 |.many p=>by rw [sd];exact kh (bh (j5 _) (bh (vo p) gf))
 |.tim p lo hi=>by rw [sd];exact kh (bh (j5 _) (bh (vo p) (bh (dw _) (bh (dw _) gf))))
theorem a5m:∀ps,clos 0 (sds ps)
 |[]=>by rw [sds];exact gf
 |p::ps=>by rw [sds];exact bh (vo p) (a5m ps)
end
def bnd:Nat->Nat
 |0=>200
 |d+1=>7*bnd d
theorem akx:∀d,200<=bnd d
 |0=>by decide
 |d+1=>by have:=akx d;rw [bnd];omega
def fu:Nat->SF
 |0=>λ_ _=>.no
 |n+1=>qb (a07 (fu n) PN.iy PN.az) 9
theorem a2k(x:Int):ux 0 (.lst [.int x]):=bh (dw _) gf
theorem a5n{o p:O}(c:ux 0 o)(c':ux 0 p):∀u∈[o,p],ux 0 u:=λu hu=>by
 simp only [aC,bA,e9] at hu
 rcases hu with rfl|rfl
 .exact c
 .exact c'
theorem b2q{d:D}{o p:O}{h:Hd}(c:MI.clo 0 d)(co:ux 0 o)(cp:ux 0 p):a9j 2 (.ok d (o::p::h))=.ok d [o,p]:=a0c (aj9 (by omega) c) (by
 intro u hu
 simp only [gV,fk] at hu;exact a5d (by omega) (a5n co cp u hu))
theorem b0x{a b c d:D}{h:Hd}:MI.ww [a,b,c,d] h=.ok (.tup [a,b,c,d]) h:=by unfold MI.ww;rw [aE (du (by simp))]
theorem a3v{xs:List D}{h:Hd}:zj [.rol xs] h=.ok (.tup xs) h:=rfl
theorem ixp{o:O}{v:D}{h:Hd}:gIx (.ref 1) (.int 0) (o::.lst [v]::h)=.ok v (o::.lst [v]::h):=rfl
theorem putp{o:O}{v w:D}{h:Hd}:put (.ref 1) (.int 0) v (o::.lst [w]::h)=some (o::.lst [v]::h):=rfl
theorem subn{n:Nat}{h:Hd}:MI.a8h (.int ((n+1:Nat):Int)) (.int 1) h=.ok (bc n) h:=by
 rw [ac8,show ((n+1:Nat):Int)-1=(n:Int) by omega]
theorem ach{x y:Int}{h:Hd}:jo (.int x) (.int y) h=.ok (.int (x+y)) h:=rfl
local macro_rules|`(tactic|walk_at "l") => `(tactic|first|((with_reducible apply azq);with_reducible assumption)|(with_reducible exact ixp)|(with_reducible exact subn)|(with_reducible exact ach))
def Drawn(tg:List Nat)(n d:Nat):Prop:=∀(o:O) (N:Nat) (x:Int),PN.Pen o N->N+bnd d<=900000000->0<=x->x<=23->∃s o' x',a3g tg d s/\Dr2 (fu n) 4 [bc d,.str (S tg)] o (.lst [.int x]) (sd s) o' (.lst [.int x'])/\PN.Pen o' (N+bnd d)/\0<=x'/\x'<=23
def Res(tg:List Nat)(d N:Nat)(r:R D):Prop:=∃s o' x',r=.ok (sd s) [o',.lst [.int x']]/\a3g tg d s/\PN.Pen o' N/\0<=x'/\x'<=23
theorem Res.tr{tg:List Nat}{d N:Nat}{r r':R D}(e:r=r')(q:Res tg d N r'):Res tg d N r:=e ▸ q
def ResF(tg:List Nat)(d N:Nat)(r:Fl):Prop:=∃s o' x',r=.rt (sd s) [o',.lst [.int x']]/\a3g tg d s/\PN.Pen o' N/\0<=x'/\x'<=23
theorem ResF.tr{tg:List Nat}{d N:Nat}{r r':Fl}(e:r=r')(q:ResF tg d N r'):ResF tg d N r:=e ▸ q
theorem Res.br{tg:List Nat}{d N:Nat}{c:ST}{p q g:SS}{τ:Sd}{h h1:Hd}(e:c τ h=.ok true h1)(z:ResF tg d N (p τ h1)):Res tg d N (toR (jg (sIf c p q) g τ h)):=by
 obtain ⟨s,o',x',e',k⟩:=z;exact ⟨s,o',x',ah toR (nq (ap (ifT e) e')),k⟩
theorem Res.to{tg:List Nat}{d N n:Nat}{o:O}{x:Int}{r:R D}(co:ux 0 o)(e:fu n [.ref 0,.ref 1,bc d,.str (S tg)] [o,.lst [.int x]]=r)(q:Res tg d N r):∃s o' x',a3g tg d s/\Dr2 (fu n) 4 [bc d,.str (S tg)] o (.lst [.int x]) (sd s) o' (.lst [.int x'])/\PN.Pen o' N/\0<=x'/\x'<=23:=by
 obtain ⟨s,o',x',e',k,P,x0,x1⟩:=q;exact ⟨s,o',x',k,Dr2.of rfl (by simp [dw,j5]) co (a2k _) (e.trans e') (b2q (vo s) P.clo (a2k _)) (vo s) P.clo (a2k _),P,x0,x1⟩
theorem aoe{tg:List Nat}{n d:Nat}{o:O}{x:Int}:fu (n+1) [.ref 0,.ref 1,bc d,.str (S tg)] [o,.lst [.int x]]=toR (a07 (fu n) PN.iy PN.az [some (.ref 0),some (.ref 1),some (bc d),some (.str (S tg)),none,none,none,none,none] [o,.lst [.int x]]):=by
 show qb (a07 (fu n) PN.iy PN.az) 9 [.ref 0,.ref 1,bc d,.str (S tg)] [o,.lst [.int x]]=_;rw [jf];rfl
theorem third{tg:List Nat}{d N M:Nat}{o1:O}{x r':Int}{τ:Sd}{g:SS}(P1:PN.Pen o1 (N+1))(hN:N<=900000000)(x0:0<=x)(x1:x<=23)(hM:N+2<=M)
  (st4:∀o2,PN.Pen o2 (N+2)->Res tg (d+1) M (toR (g (some (.ref 0)::some (.ref 1)::some (bc (d+1))::some (.str (S tg))::some (.int r')::τ) [o2,.lst [.int x]]))) :
  Res tg (d+1) M (toR (jg (sIf (a8m (sT (s2 hEq (sV 4) (sC (.int 9)))) (sT (s2 hEq (sA (kj false 2 PN.az) (aj (sV 0) (aj (sC (.int 2)) bz))) (sC (.int 0))))) (o9 (sA MI.ww (aj (sC (.str "row")) (aj (sA MI.ww bz) bz)))) sNx) g (some (.ref 0)::some (.ref 1)::some (bc (d+1))::some (.str (S tg))::some (.int r')::τ) [o1,.lst [.int x]])):=by
 by_cases h9:r'=9
 .obtain ⟨q,o2,e2,q0,q1,P2⟩:=PN.p7 (m:=2) P1 (by omega) (by decide) (by decide)
  by_cases hq:q=0
  .refine Res.tr (ah toR (nq (ap (ifT (by walk_at "x")) (jd (by walk_at "x"))))) ?_
   exact ⟨.row [],o2,x,rfl,⟨by simp,by simp⟩,P2.up (by omega),x0,x1⟩
  .exact Res.tr (ah toR (ifN (by walk_at "x"))) (st4 o2 P2)
 .exact Res.tr (ah toR (ifN (alw (by walk_at "x")))) (st4 o1 (P1.up (by omega)))
theorem a90{tg:List Nat}(t1:1<=tg.length)(t6:tg.length<=6)(nd:tg.Nodup){n d:Nat}(hd:d<=4)(ih:0<d->Drawn tg n d):Drawn tg (n+1) (d+1):=by
 intro o N x P hN x0 x1
 have bl:=akx d;have be:bnd (d+1)=7*bnd d:=rfl;refine Res.to P.clo aoe ?_;unfold a07;have ln:∀h,qu [.str (S tg)] h=.ok (bc tg.length) h:=λh=>a4o (du (by omega))
 obtain ⟨r,o1,e1,r0,r1,P1⟩:=PN.p7 (m:=10) P (by omega) (by decide) (by decide)
 refine Res.tr (ah toR (m7 (by walk_at "x"))) ?_
 have st2:∃r':Int,0<=r'/\r'<10/\∀g:SS,jg (sIf (a8m (sT (s2 hEq (sV 2) (sC (.int 5)))) (sT (s2 gLt (sV 4) (sC (.int 2))))) (n6 4 (s2 jo (sV 4) (sC (.int 4)))) sNx) g [some (.ref 0),some (.ref 1),some (bc (d+1)),some (.str (S tg)),some (.int r),none,none,none,none] [o1,.lst [.int x]]=g [some (.ref 0),some (.ref 1),some (bc (d+1)),some (.str (S tg)),some (.int r'),none,none,none,none] [o1,.lst [.int x]]:=by
  by_cases h5:((d+1:Nat):Int)=5/\r<2
  .obtain ⟨h5,h2⟩:=h5;exact ⟨r+4,by omega,by omega,λg=>a3t (ap (ifT (by walk_at "x")) (afl (by walk_at "x")))⟩
  .by_cases h6:((d+1:Nat):Int)=5
   .have h2:¬ r<2:=λz=>h5 ⟨h6,z⟩;exact ⟨r,r0,r1,λg=>ifN (by walk_at "x")⟩
   .exact ⟨r,r0,r1,λg=>ifN (alw (by walk_at "x"))⟩
 obtain ⟨r',r0',r1',st2⟩:=st2;refine Res.tr (ah toR (st2 _)) ?_
 clear st2
 refine third P1 (by omega) x0 x1 (by omega) λo2 P2=>?_
 by_cases h1:d=0\/x<1\/r'<2
 .obtain ⟨l,o3,l1,l2,l3,l4,e3,P3⟩:=PN.akt (most:=tg.length) P2 (by omega) t1 (aA _) (by omega) nd
  have c:sOr (sT (s2 hEq (sV 2) (sC (.int 1)))) (sOr (sT (s2 gLt (s2 gIx (sV 1) (sC (.int 0))) (sC (.int 1)))) (sT (s2 gLt (sV 4) (sC (.int 2))))) [some (.ref 0),some (.ref 1),some (bc (d+1)),some (.str (S tg)),some (.int r'),none,none,none,none] [o2,.lst [.int x]]=.ok true [o2,.lst [.int x]]:=by
   by_cases a:d=0
   .exact orT (by walk_at "x")
   .by_cases b:x<1
    .exact orF (by walk_at "x") (orT (by walk_at "x"))
    .have:r'<2:=by omega
     exact orF (by walk_at "x") (orF (by walk_at "x") (by walk_at "x"))
  have lg:=ln [o2,.lst [.int x]];refine Res.tr (ah toR (nq (ap (ifT c) (jd (by walk_at "x"))))) ?_
  exact ⟨.one l,o3,x,rfl,⟨l1,by omega,l4⟩,P3.up (by omega),x0,x1⟩
 .have d0:¬ d=0:=λz=>h1 (.inl z);have xp:¬ x<1:=λz=>h1 (.inr (.inl z));have rp:¬ r'<2:=λz=>h1 (.inr (.inr z));refine Res.tr (ah toR (ifN (orF (by walk_at "x") (orF (by walk_at "x") (by walk_at "x"))))) ?_
  have ih:=ih (by omega)
  obtain ⟨d,rfl⟩:∃d',d=d'+1:=⟨d-1,by omega⟩
  by_cases h4:r'<4
  .obtain ⟨s,o3,x3,k3,e3,P3,y0,y1⟩:=ih o2 (N+2) (x-1) P2 (by omega) (by omega) (by omega)
   refine Res.br (by walk_at "x") ?_
   refine ResF.tr (a3t (ao9 (by walk_at "x") (bw rfl) (gk _ _ _) putp)) ?_
   refine ResF.tr (m7 (by walk_at "x")) ?_
   by_cases h2:r'=2
   .exact ⟨.many s,o3,x3,nq (ap (ifT (by walk_at "x")) (jd (by rw [sd];walk_at "x"))),k3,P3.up (by omega),y0,y1⟩
   .refine ResF.tr (ifN (by walk_at "x")) ?_
    obtain ⟨lo,o4,e4,a0,a1,P4⟩:=PN.p7 (m:=5) P3 (by omega) (by decide) (by decide)
    refine ResF.tr (m7 (by walk_at "x")) ?_
    obtain ⟨hi,o5,e5,b0,b1,P5⟩:=PN.p7 (m:=5-lo) P4 (by omega) (by omega) (by omega)
    obtain ⟨lo,rfl⟩:=aU a0;obtain ⟨hi,rfl⟩:=aU b0;refine ⟨.tim s lo (lo+hi),o5,x3,jd ?_,⟨by omega,by omega,k3⟩,P5.up (by omega),y0,y1⟩
    have c1:sA (kj false 2 PN.az) (aj (sV 0) (aj (s2 MI.a8h (sC (.int 5)) (sV 6)) bz)) [some (.ref 0),some (.ref 1),some (bc (d+1+1)),some (.str (S tg)),some (.int r'),some (sd s),some (.int lo),none,none] [o4,.lst [.int x3]]=.ok (.int hi) [o5,.lst [.int x3]]:=by walk_at "x"
    rw [sd];exact PAP.aof (PAP.gh (gk _ _ _) (PAP.gh (bw rfl) (PAP.gh (bw rfl) (PAP.gh (ig (bw rfl) c1 ach) EVT.wz)))) b0x
  .refine Res.tr (ah toR (ifN (by walk_at "x"))) ?_
   obtain ⟨q,o3,e3,q0,q1,P3⟩:=PN.p7 (m:=3) P2 (by omega) (by decide) (by decide)
   obtain ⟨q,rfl⟩:=aU q0;have x3:∃m:Int,1<m/\m<=6/\gIx (.rol [.int 2,.int 3,.int 6]) (.int (q:Nat)) [o3,.lst [.int x]]=.ok (.int m) [o3,.lst [.int x]]:=by
    rcases q with _|_|_|q
    .exact ⟨2,by decide,by decide,rfl⟩
    .exact ⟨3,by decide,by decide,rfl⟩
    .exact ⟨6,by decide,by decide,rfl⟩
    .omega
   obtain ⟨m,m0,m1,x3⟩:=x3;obtain ⟨z,o4,e4,z0,z1,P4⟩:=PN.p7 (m:=m) P3 (by omega) (by omega) (by omega)
   obtain ⟨k,hk,k0,k1⟩:∃k:Nat,abg [.int x,.int (1+z)] [o4,.lst [.int x]]=.ok (bc k) [o4,.lst [.int x]]/\1<=k/\k<=6/\(k:Int)<=x:=by
    refine ⟨(if 1+z<x then 1+z else x).toNat,?_,?_⟩
    .show R.ok (D.int (if 1+z<x then 1+z else x)) _=_
     rw [show bc (if 1+z<x then 1+z else x).toNat=D.int (if 1+z<x then 1+z else x) from ah D.int (by split<;>omega)]
    .split<;>omega
   have hx:=k1.2;have k1:=k1.1;have cc:clos 0 [.int 2,.int 3,.int 6]:=bh (dw _) (bh (dw _) (bh (dw _) gf));have hc:∀u∈[o2,.lst [.int x]],ux 0 u:=a5n P2.clo (a2k _);refine Res.tr (ah toR (m7 (by walk_at "x"))) ?_
   refine Res.tr (ah toR (a3t (ao9 (by walk_at "x") (bw rfl) (gk _ _ _) putp))) ?_
   have mp:=a9m (f:=a2y MI.t1 (vm (fu n) PN.iy PN.az) [some (.ref 0),some (.ref 1),some (bc (d+1+1)),some (.str (S tg))]) bc
    (λpre ys h=>∃(ss:List Sh) (o':O) (x':Int),ys=ss.map sd/\h=[o',.lst [.int x']]/\PN.Pen o' (N+2+1+1+pre.length*bnd (d+1))/\(∀s∈ss,a3g tg (d+1) s)/\ss.length=pre.length/\0<=x'/\x'<=23)
    (List.range k) [] [] [o4,.lst [.int (x-k)]] ?_ ⟨[],o4,x-k,rfl,rfl,by simpa using P4,by simp,rfl,by omega,by omega⟩
   .obtain ⟨zs,h',mp,ss,o5,x5,zq,rfl,P5,ks,sl,y0,y1⟩:=mp;simp only [cr] at zq;subst zq;simp only [cr,aF] at P5 sl;have kb:k*bnd (d+1)<=6*bnd (d+1):=bM _ k1;have zz:sZ (m5 (sRg v4 (aj (sV 7) bz)) MI.t1 (vm (fu n) PN.iy PN.az) [0,1,2,3]) [some (.ref 0),some (.ref 1),some (bc (d+1+1)),some (.str (S tg)),some (.int r'),none,none,some (bc k),none] [o4,.lst [.int (x-k)]]=.ok (.rol (ss.map sd)) [o5,.lst [.int x5]]:=by
     refine EVT.akv ?_ rfl (qt ss ▸ a5m ss) (a5n P5.clo (a2k _));unfold m5;rw [xu (n:=k) (bw rfl) (du (by omega)),cj]
     dsimp only;rw [aE (du (by simp;omega))]
     show R.bind (mapR (λ_=>True) (a2y MI.t1 (vm (fu n) PN.iy PN.az) [some (.ref 0),some (.ref 1),some (bc (d+1+1)),some (.str (S tg))]) ((List.range k).map bc) [o4,.lst [.int (x-k)]]) _=_;rw [mp];rfl
    refine Res.tr (ah toR (m7 (tu zz a3v))) ?_
    by_cases h6:r' > 6
    .refine ⟨.eit ss,o5,x5,ah toR (jd ?_),⟨by omega,by omega,ks⟩,P5.up (by omega),y0,y1⟩
     rw [sd,qt];have g1:sA agg (aj (s2 gGt (sV 4) (sC (.int 6))) bz) [some (.ref 0),some (.ref 1),some (bc (d+1+1)),some (.str (S tg)),some (.int r'),none,none,some (bc k),some (.tup (ss.map sd))] [o5,.lst [.int x5]]=.ok (.int ((1:Nat):Int)) [o5,.lst [.int x5]]:=tu (ig (bw rfl) (gk _ _ _) (atl h6)) rfl;exact ul (ig (EVT.ut (PAP.gh (gk _ _ _) (PAP.gh (gk _ _ _) EVT.wz)) rfl (bh (j5 _) (bh (j5 _) gf)) (a5n P5.clo (a2k _)) (by decide)) g1 rfl) (bw rfl) a8x
    .refine ⟨.row ss,o5,x5,ah toR (jd ?_),⟨by omega,ks⟩,P5.up (by omega),y0,y1⟩
     rw [sd,qt];have g1:sA agg (aj (s2 gGt (sV 4) (sC (.int 6))) bz) [some (.ref 0),some (.ref 1),some (bc (d+1+1)),some (.str (S tg)),some (.int r'),none,none,some (bc k),some (.tup (ss.map sd))] [o5,.lst [.int x5]]=.ok (.int ((0:Nat):Int)) [o5,.lst [.int x5]]:=tu (ig (bw rfl) (gk _ _ _) (atm h6)) rfl;exact ul (ig (EVT.ut (PAP.gh (gk _ _ _) (PAP.gh (gk _ _ _) EVT.wz)) rfl (bh (j5 _) (bh (j5 _) gf)) (a5n P5.clo (a2k _)) (by decide)) g1 rfl) (bw rfl) a8x
   .rintro pre i post ys h al ⟨ss,o',x',rfl,rfl,P',ks,sl,y0,y1⟩
    have hl:pre.length<k:=by
     have:=ah List.length al
     simp at this;omega
    have kb:(pre.length+1)*bnd (d+1)<=6*bnd (d+1):=bM _ (by omega)
    rw [cZ] at kb;obtain ⟨s,o5,x5,k5,e5,P5,w0,w1⟩:=ih o' _ x' P' (by omega) y0 y1
    refine ⟨sd s,[o5,.lst [.int x5]],?_,ss++[s],o5,x5,by simp,rfl,?_,?_,by simp [sl],w0,w1⟩
    .rw [sy];unfold vm
     walk_at "x"
    .rw [av,aK,cZ];exact P5.up (by omega)
    .intro u hu
     rcases aZ.mp hu with hu|hu
     .exact ks u hu
     .rw [aD.mp hu];exact k5
theorem afu{tg:List Nat}(t1:1<=tg.length)(t6:tg.length<=6)(nd:tg.Nodup):∀(d n:Nat),d<=4->d<=n->Drawn tg (n+1) (d+1)
 |0,n,_,_=>a90 t1 t6 nd (by omega) λz=>absurd z (by omega)
 |d+1,0,_,h=>absurd h (by omega)
 |d+1,n+1,h,h'=>a90 t1 t6 nd h λ_=>afu t1 t6 nd d n (by omega) (by omega)
section
variable{a b c d:D}{xs:List D}{h:Hd}
theorem ix0:gIx (.tup (a::xs)) (.int 0) h=.ok a h:=aoa (j:=0) rfl
theorem ix1:gIx (.tup (a::b::xs)) (.int 1) h=.ok b h:=aoa (j:=1) rfl
theorem ix2:gIx (.tup (a::b::c::xs)) (.int 2) h=.ok c h:=aoa (j:=2) rfl
theorem ix3:gIx (.tup (a::b::c::d::xs)) (.int 3) h=.ok d h:=aoa (j:=3) rfl
theorem ay6{x:Str}:hEq (.str x) (.str x) h=.ok (.bl true) h:=by rw [awz,cJ]
theorem apo{x y:Str}(e:(x == y)=false):hEq (.str x) (.str y) h=.ok (.bl false) h:=by rw [awz,e]
theorem ay7{x y:Str}(e:(x == y)=false):hNe (.str x) (.str y) h=.ok (.bl true) h:=by rw [asn,e];rfl
theorem asv{x:Str}:hNe (.str x) (.str x) h=.ok (.bl false) h:=by rw [asn,cJ];rfl
end
local macro_rules|`(tactic|walk_at "l") => `(tactic|first|(with_reducible exact SHD.ix0)|(with_reducible exact SHD.ix1)|(with_reducible exact SHD.ix2)|(with_reducible exact SHD.ix3)|(with_reducible exact SHD.ay6)|((with_reducible apply SHD.apo);exact (by decide))|(with_reducible exact SHD.asv)|((with_reducible apply SHD.ay7);exact (by decide))|(with_reducible exact SHD.ach)|(with_reducible exact SHD.a3v))
inductive All2 {α β:Type} (Q:α->β->Prop):List α->List β->Prop
 |nil:All2 Q [] []
 |cons {x:α} {y:β} {xs:List α} {ys:List β} (h:Q x y) (t:All2 Q xs ys):All2 Q (x::xs) (y::ys)
theorem All2.snoc{α β:Type}{Q:α->β->Prop}{x:α}{y:β}(h:Q x y):∀{xs:List α} {ys:List β},All2 Q xs ys->All2 Q (xs++[x]) (ys++[y])
 |_,_,.nil=>.cons h .nil
 |_,_,.cons q t=>.cons q (All2.snoc h t)
theorem All2.len{α β:Type}{Q:α->β->Prop}:∀{xs:List α} {ys:List β},All2 Q xs ys->ys.length=xs.length
 |_,_,.nil=>rfl
 |_,_,.cons _ t=>by rw [aH,aH,t.len]
theorem All2.rt{α β:Type}{Q:α->β->Prop}:∀{xs:List α} {ys:List β},All2 Q xs ys->∀y∈ys,∃x∈xs,Q x y
 |_,_,.nil,y,hy=>by cases hy
 |_,_,.cons q t,y,hy=>by
  rcases aC.mp hy with rfl|hy
  .exact ⟨_,aI,q⟩
  .obtain ⟨x,hx,q⟩:=t.rt y hy;exact ⟨x,ay _ hx,q⟩
theorem All2.imp{α β:Type}{Q R:α->β->Prop}(i:∀x y,Q x y->R x y):∀{xs:List α} {ys:List β},All2 Q xs ys->All2 R xs ys
 |_,_,.nil=>.nil
 |_,_,.cons q t=>.cons (i _ _ q) (t.imp i)
theorem a6g{α β:Type}{fi:SI}{t:D->Option Sd}{fe:SE}{ix:List Nat}{τ:Sd}{o:O}{hs:Hd}(xs:List α)(g:α->D)(k:β->D)(Q:α->β->Prop){N B M:Nat}(P:PN.Pen o N)(hM:N+xs.length*B<=M)(z:xs.length<=1000000)(ch:∀u∈hs,ux 0 u)
  (e:fi τ (o::hs)=.ok ⟨xs.map g,λ_=>True⟩ (o::hs)) (st:∀x∈xs,∀o N,PN.Pen o N->N+B<=M->∃y o',a2y t fe (frs' ix τ) (g x) (o::hs)=.ok (k y) (o'::hs)/\MI.clo 0 (k y)/\Q x y/\PN.Pen o' (N+B)) :
  ∃ys o',sZ (m5 fi t fe ix) τ (o::hs)=.ok (.rol (ys.map k)) (o'::hs)/\All2 Q xs ys/\PN.Pen o' (N+xs.length*B)/\clos 0 (ys.map k):=by
 have mp:=a9m (f:=a2y t fe (frs' ix τ)) g (λpre zs h=>∃(ys:List β) (o':O),zs=ys.map k/\h=o'::hs/\PN.Pen o' (N+pre.length*B)/\All2 Q pre ys/\clos 0 (ys.map k)) xs [] [] (o::hs) ?_ ⟨[],o,rfl,rfl,by simpa using P,.nil,gf⟩
 .obtain ⟨zs,h',mp,ys,o',zq,rfl,P',q,cl⟩:=mp;simp only [cr] at zq P' q;subst zq;refine ⟨ys,o',EVT.akv ?_ rfl cl (λu hu=>?_),q,P',cl⟩
  .unfold m5;rw [e,cj];dsimp only;rw [aE (du (by rw [ax];exact z)),mp]
   rfl
  .rcases aC.mp hu with rfl|hu
   .exact P'.clo
   .exact ch u hu
 .rintro pre x post zs h al ⟨ys,o',rfl,rfl,P',q,cl⟩
  have al:xs=pre++x::post:=al;have hl:pre.length+1<=xs.length:=by rw [al];simp
  have kb:(pre.length+1)*B<=xs.length*B:=bM _ hl;rw [cZ] at kb;obtain ⟨y,o'',e',cy,qy,P''⟩:=st x (by rw [al];simp) o' _ P' (by omega)
  refine ⟨k y,o''::hs,e',ys++[y],o'',by simp,rfl,?_,q.snoc qy,?_⟩
  .rw [av,aK,cZ];exact P''.up (by omega)
  .rw [cI];exact EVT.a2v cl (bh cy gf)
def aho(y:Str):D->Bool
 |.str x=>x == y
 |_=>false
noncomputable def wks(f:Sh->D->Option (List Nat)):List Sh->List D->Option (List Nat)
 |[],[]=>some []
 |p::ps,q::qs=>match f p q,wks f ps qs with
  |some x,some y=>some (x++y)
  |_,_=>none
 |_,_=>none
noncomputable def axe(s:List Nat):D->Option (List Nat)
 |.str x=>match x.cps.toList with
  |[c]=>if c∈s then some [c] else none
  |_=>none
 |_=>none
def asw(f:List D->Option (List Nat)):D->Option (List Nat)
 |.tup qs=>f qs
 |_=>none
noncomputable def axf(f:Nat->D->Option (List Nat))(n:Nat)(k:D)(q:D):Option (List Nat):=match k with
 |.int i=>if 0<=i/\i<(n:Int) then f i.toNat q else none
 |_=>none
noncomputable def two(y:Str)(f:D->Option (List Nat)):D->Option (List Nat)
 |.tup [a,b]=>if aho y a=true then f b else none
 |_=>none
noncomputable def three(y:Str)(f:D->D->Option (List Nat)):D->Option (List Nat)
 |.tup [a,b,c]=>if aho y a=true then f b c else none
 |_=>none
noncomputable def wk:Nat->Sh->D->Option (List Nat)
 |0,_,_=>none
 |n+1,s,p=>match s with
  |.one s=>two "one" (axe s) p
  |.row ps=>two "row" (asw λqs=>wks (wk n) ps qs) p
  |.eit ps=>three "either" (axf (λi q=>(ps[i]?).bind λs=>wk n s q) ps.length) p
  |.many s=>two "many" (asw λqs=>wks (wk n) (List.replicate qs.length s) qs) p
  |.tim s lo hi=>two "times" (asw λqs=>if lo<=qs.length/\qs.length<=hi then wks (wk n) (List.replicate qs.length s) qs else none) p
inductive Pa where
 |one (c:Nat)|eit (k:Nat) (p:Pa)|lst (h:Nat) (ps:List Pa)
def hn:Nat->Str
 |0 => "row"
 |1 => "many"
 |_ => "times"
mutual
def pd:Pa->D
 |.one c=>.tup [.str "one",.str (S [c])]
 |.eit k p=>.tup [.str "either",bc k,pd p]
 |.lst h ps=>.tup [.str (hn h),.tup (pds ps)]
def pds:List Pa->List D
 |[]=>[]
 |p::ps=>pd p::pds ps
end
mutual
def sw:Pa->List Nat
 |.one c=>[c]
 |.eit _ p=>sw p
 |.lst _ ps=>sws ps
def sws:List Pa->List Nat
 |[]=>[]
 |p::ps=>sw p++sws ps
end
theorem a2l:∀ps,pds ps=ps.map pd
 |[]=>by rw [pds];rfl
 |p::ps=>by rw [pds,a2l ps];rfl
theorem a5o:∀ps,sws ps=(ps.map sw).flatten
 |[]=>by rw [sws];rfl
 |p::ps=>by rw [sws,a5o ps];rfl
mutual
theorem a1b:∀p,MI.clo 0 (pd p)
 |.one s=>by rw [pd];exact kh (bh (j5 _) (bh (j5 _) gf))
 |.eit k p=>by rw [pd];exact kh (bh (j5 _) (bh (dw _) (bh (a1b p) gf)))
 |.lst h ps=>by rw [pd];exact kh (bh (j5 _) (bh (kh (aai ps)) gf))
theorem aai:∀ps,clos 0 (pds ps)
 |[]=>by rw [pds];exact gf
 |p::ps=>by rw [pds];exact bh (a1b p) (aai ps)
end
def POk(tg:List Nat):Nat->Pa->Prop
 |0,_=>False
 |n+1,p=>match p with
  |.one c=>c∈tg
  |.eit k p=>k<=5/\POk tg n p
  |.lst h ps=>h<=2/\ps.length<=6/\∀p∈ps,POk tg n p
theorem afv{f:Sh->D->Option (List Nat)}:∀{ss:List Sh} {ps:List Pa},All2 (λs p=>f s (pd p)=some (sw p)) ss ps->wks f ss (pds ps)=some (sws ps)
 |_,_,.nil=>by rw [pds,sws];rfl
 |_,_,.cons q t=>by
  rw [pds,sws,wks,q,afv t]
theorem aaj{α β:Type}{Q:α->β->Prop}{x:α}:∀{ys:List β},(∀y∈ys,Q x y)->All2 Q (List.replicate ys.length x) ys
 |[],_=>.nil
 |y::ys,h=>by
  rw [aH,cH];exact .cons (h y aI) (aaj λz hz=>h z (ay _ hz))
theorem a82(ps:List Pa):(pds ps).length=ps.length:=by rw [a2l,ax]
def di:Nat->SF
 |0=>λ_ _=>.no
 |n+1=>qb (yh (di n) PN.az) 6
def aak(tg:List Nat)(n d:Nat):Prop:=∀s,a3g tg d s->∀(o:O) (N:Nat),PN.Pen o N->N+bnd d<=900000000->∃p o',Dr (di n) 2 [sd s] o (pd p) o'/\POk tg d p/\wk d s (pd p)=some (sw p)/\PN.Pen o' (N+bnd d)
theorem a1p{n:Nat}{s:D}{o:O}:di (n+1) [.ref 0,s] [o]=toR (yh (di n) PN.az [some (.ref 0),some s,none,none,none,none] [o]):=by
 show qb (yh (di n) PN.az) 6 [.ref 0,s] [o]=_;rw [jf];rfl
theorem b2r{d:D}{o:O}(c:MI.clo 0 d)(co:ux 0 o):a9j 1 (.ok d [o])=.ok d [o]:=a0c (aj9 (by omega) c) (by
 intro u hu
 simp only [gV,fk,aD] at hu;subst hu;exact a5d (by omega) co)
theorem dr1{F:SF}{n:Nat}{ds:List D}{o o':O}{d:D}(hn:ds.length+1=n)(cd:∀x∈ds,MI.clo 0 x)(co:ux 0 o)(e:F (.ref 0::ds) [o]=.ok d [o'])(c:MI.clo 0 d)(co':ux 0 o'):Dr F n ds o d o':=Dr.of hn cd co e (b2r c co') c co'
theorem again{tg:List Nat}{n d N k:Nat}{s:Sh}{o1:O}{h:Str}{rest:List D}{r hi:Int}(ih:aak tg n d)(k6:k<=6)(ks:a3g tg d s)(P1:PN.Pen o1 N)(hN:N+6*bnd d<=900000000) :
  ∃bs o2,sZ (m5 (sRg v4 (aj (sV 5) bz)) MI.t1 (ym (di n) PN.az) [0,1]) [some (.ref 0),some (.tup (.str h::sd s::rest)),none,some (.int r),some (.int hi),some (bc k)] [o1]=.ok (.rol (bs.map pd)) [o2]/\All2 (λ(_:Nat) p=>POk tg d p/\wk d s (pd p)=some (sw p)) (List.range k) bs/\PN.Pen o2 (N+k*bnd d)/\clos 0 (bs.map pd):=by
 obtain ⟨bs,o2,e,q,P2,cl⟩:=a6g (hs:=[]) (fi:=sRg v4 (aj (sV 5) bz)) (t:=MI.t1) (fe:=ym (di n) PN.az) (ix:=[0,1]) (τ:=[some (.ref 0),some (.tup (.str h::sd s::rest)),none,some (.int r),some (.int hi),some (bc k)]) (B:=bnd d) (M:=N+6*bnd d) (List.range k) bc pd (λ_ p=>POk tg d p/\wk d s (pd p)=some (sw p)) P1 (by rw [aF];exact fE (bM _ k6) _) (by rw [aF];omega) (by simp)
  (xu (n:=k) (bw rfl) (du (by omega))) (λx hx o N P' hN'=>by
   obtain ⟨p,o2,e2,k',w',P2⟩:=ih s ks o N P' (by omega)
   refine ⟨p,o2,?_,a1b p,⟨k',w'⟩,P2⟩;rw [sy];unfold ym;show sA (kj false 2 (di n)) (aj (sV 1) (aj (s2 gIx (sV 2) (sC (.int 1))) bz)) [some (bc x),some (.ref 0),some (.tup (.str h::sd s::rest))] [o]=_
   walk_at "x")
 rw [aF] at P2;exact ⟨bs,o2,e,q,P2,cl⟩
theorem ahe{tg:List Nat}{n d:Nat}(ih:aak tg n d):aak tg (n+1) (d+1):=by
 intro s ks o N P hN
 have bl:=akx d;have be:bnd (d+1)=7*bnd d:=rfl;have one1:∀x∈[sd s],MI.clo 0 x:=λx hx=>by rw [aD.mp hx];exact vo s
 suffices q:∃p o',toR (yh (di n) PN.az [some (.ref 0),some (sd s),none,none,none,none] [o])=.ok (pd p) [o']/\POk tg (d+1) p/\wk (d+1) s (pd p)=some (sw p)/\PN.Pen o' (N+bnd (d+1)) by
  obtain ⟨p,o',e,k,w,P'⟩:=q;exact ⟨p,o',dr1 rfl one1 P.clo (a1p.trans e) (a1b p) P'.clo,k,w,P'⟩
 clear one1
 unfold yh
 cases s with
 |one s =>
  obtain ⟨k1,k2,k3⟩:=ks;rw [sd];obtain ⟨r,o1,e1,r0,r1,P1⟩:=PN.p7 (m:=(s.length:Int)) P (by omega) (by omega) (by omega)
  obtain ⟨r,rfl⟩:=aU r0;have hr:r<s.length:=by omega
  have ln:qu [.str (S s)] [o]=.ok (bc s.length) [o]:=a4o (du (by omega))
  have x1:gIx (.str (S s)) (.int (r:Nat)) [o1]=.ok (.str (S [s[r]])) [o1]:=asm (du (by omega)) (ag hr)
  refine ⟨.one s[r],o1,ah toR (nq (ap (ifT (by walk_at "x")) (jd (by rw [pd];walk_at "x")))),k3 _ (bZ hr),?_,P1.up (by omega)⟩
  rw [pd,sw];show (if aho "one" (.str "one")=true then axe s (.str (S [s[r]])) else none)=_
  rw [aE (by decide)]
  show (if s[r]∈s then some [s[r]] else none)=_
  rw [aE (bZ hr)]
 |eit ps =>
  obtain ⟨k1,k2,k3⟩:=ks;rw [sd,qt];obtain ⟨r,o1,e1,r0,r1,P1⟩:=PN.p7 (m:=(ps.length:Int)) P (by omega) (by omega) (by omega)
  obtain ⟨r,rfl⟩:=aU r0;have hr:r<ps.length:=by omega
  obtain ⟨p,o2,e2,k',w',P2⟩:=ih ps[r] (k3 _ (bZ hr)) o1 _ P1 (by omega)
  have ln:qu [.tup (ps.map sd)] [o]=.ok (bc ps.length) [o]:=by rw [EVT.uh,ax]
  have x1:gIx (.tup (ps.map sd)) (.int (r:Nat)) [o1]=.ok (sd ps[r]) [o1]:=aoa (by rw [aN,ag hr];rfl)
  refine ⟨.eit r p,o2,?_,⟨by omega,k'⟩,?_,P2.up (by omega)⟩
  .refine ap (ah toR (ifN (by walk_at "x"))) (ah toR (nq (ap (ifT (by walk_at "x")) (ap (m7 (by walk_at "x")) (jd (by rw [pd];walk_at "x"))))))
  .rw [pd,sw];show (if aho "either" (.str "either")=true then axf (λi q=>(ps[i]?).bind λs=>wk d s q) ps.length (bc r) (pd p) else none)=_
   rw [aE (by decide)]
   show (if 0<=(r:Int)/\(r:Int)<(ps.length:Int) then (ps[(r:Int).toNat]?).bind λs=>wk d s (pd p) else none)=_
   rw [aE ⟨by omega,by omega⟩,cv,ag hr]
   exact w'
 |row ps =>
  obtain ⟨k1,k2⟩:=ks;rw [sd,qt];obtain ⟨bs,o1,e1,q,P1,cl⟩:=a6g (hs:=[]) (fi:=sIt (s2 gIx (sV 1) (sC (.int 1)))) (t:=MI.t1) (fe:=a0i (di n) PN.az) (ix:=[0]) (τ:=[some (.ref 0),some (.tup [.str "row",.tup (ps.map sd)]),none,none,none,none]) (B:=bnd d) (M:=N+6*bnd d) ps sd pd (λs p=>POk tg d p/\wk d s (pd p)=some (sw p)) P (fE (bM _ k1) _) (by omega) (by simp)
   (a7w (by walk_at "x") rfl) (λx hx o N P' hN'=>by
    obtain ⟨p,o2,e2,k',w',P2⟩:=ih x (k2 x hx) o N P' (by omega)
    refine ⟨p,o2,?_,a1b p,⟨k',w'⟩,P2⟩;rw [sy];unfold a0i;show sA (kj false 2 (di n)) (aj (sV 1) (aj (sV 0) bz)) [some (sd x),some (.ref 0)] [o]=_
    walk_at "x")
  refine ⟨.lst 0 bs,o1,?_,⟨by omega,by rw [q.len];exact k1,λp hp=>by obtain ⟨x,_,k,_⟩:=q.rt p hp;exact k⟩,?_,P1.up (by have:=bM (bnd d) k1;omega)⟩
  .refine ap (ah toR (ifN (by walk_at "x"))) (ap (ah toR (ifN (by walk_at "x"))) (ah toR (nq (ap (ifT (by walk_at "x")) (jd (by rw [pd,a2l];show _=R.ok (D.tup [.str "row",.tup (bs.map pd)]) _;walk_at "x"))))))
  .rw [pd,sw];show (if aho "row" (.str "row")=true then wks (wk d) ps (pds bs) else none)=_
   rw [aE (by decide)]
   exact afv (q.imp λ_ _ z=>z.2)
 |many s =>
  rw [sd];obtain ⟨r,o1,e1,r0,r1,P1⟩:=PN.p7 (m:=3-0+1) P (by omega) (by decide) (by decide)
  obtain ⟨k,hk⟩:∃k:Nat,0+r=(k:Int):=⟨r.toNat,by omega⟩
  obtain ⟨bs,o2,e2,q,P2,cl⟩:=again ih (by omega) (h := "many") (rest:=[]) (r:=0) (hi:=3) (k:=k) ks P1 (by omega)
  refine ⟨.lst 1 bs,o2,?_,⟨by omega,by rw [q.len,aF];omega,λp hp=>by obtain ⟨x,_,k,_⟩:=q.rt p hp;exact k⟩,?_,P2.up (by have:=bM (bnd d) (show k<=6 by omega);omega)⟩
  .refine ap (ah toR (ifN (by walk_at "x"))) (ap (ah toR (ifN (by walk_at "x"))) (ap (ah toR (ifN (by walk_at "x"))) (ap (ah toR (m7 (by walk_at "x"))) (ap (ah toR (m7 (by walk_at "x"))) (ap (ah toR (ifN (by walk_at "x"))) (ap (ah toR (m7 (by walk_at "x"))) ?_))))))
   rw [hk];rw [pd,a2l];exact ah toR (jd (ul (ig (bw rfl) (gk _ _ _) ix0) (tu e2 a3v) a8x))
  .rw [pd,sw];show (if aho "many" (.str "many")=true then wks (wk d) (List.replicate (pds bs).length s) (pds bs) else none)=_
   rw [aE (by decide),a82]
   exact afv (aaj λy hy=>by obtain ⟨x,_,_,w⟩:=q.rt y hy;exact w)
 |tim s lo hi =>
  obtain ⟨k1,k2,k3⟩:=ks;rw [sd];obtain ⟨r,o1,e1,r0,r1,P1⟩:=PN.p7 (m:=(hi:Int)-(lo:Int)+1) P (by omega) (by omega) (by omega)
  obtain ⟨k,hk⟩:∃k:Nat,(lo:Int)+r=(k:Int):=⟨(lo+r).toNat,by omega⟩
  obtain ⟨bs,o2,e2,q,P2,cl⟩:=again ih (by omega) (h := "times") (rest:=[bc lo,bc hi]) (r:=(lo:Int)) (hi:=(hi:Int)) (k:=k) k3 P1 (by omega)
  refine ⟨.lst 2 bs,o2,?_,⟨by omega,by rw [q.len,aF];omega,λp hp=>by obtain ⟨x,_,k,_⟩:=q.rt p hp;exact k⟩,?_,P2.up (by have:=bM (bnd d) (show k<=6 by omega);omega)⟩
  .refine ap (ah toR (ifN (by walk_at "x"))) (ap (ah toR (ifN (by walk_at "x"))) (ap (ah toR (ifN (by walk_at "x"))) (ap (ah toR (m7 (by walk_at "x"))) (ap (ah toR (m7 (by walk_at "x"))) (ap (ah toR (a3t (ap (ifT (by walk_at "x")) (ap (m7 (by walk_at "x")) (afl (by walk_at "x")))))) (ap (ah toR (m7 (by walk_at "x"))) ?_))))))
   rw [hk];rw [pd,a2l];exact ah toR (jd (ul (ig (bw rfl) (gk _ _ _) ix0) (tu e2 a3v) a8x))
  .rw [pd,sw];have lb:bs.length=k:=by rw [q.len,aF]
   show (if aho "times" (.str "times")=true then (if lo<=(pds bs).length/\(pds bs).length<=hi then wks (wk d) (List.replicate (pds bs).length s) (pds bs) else none) else none)=_
   rw [aE (by decide),a82,aE (by omega)]
   exact afv (aaj λy hy=>by obtain ⟨x,_,_,w⟩:=q.rt y hy;exact w)
theorem afw{tg:List Nat}:∀(d n:Nat),d<=n->aak tg n d
 |0,_,_=>λ_ k=>k.elim
 |d+1,0,h=>absurd h (by omega)
 |d+1,n+1,h=>ahe (afw d n (by omega))
theorem afx{tg:List Nat}:∀{n:Nat} {p:Pa},POk tg n p->(sw p).length<=6^n
 |0,_,h=>h.elim
 |n+1,.one c,_=>by rw [sw];exact iT (by decide)
 |n+1,.eit k p,h=>by rw [sw,fH];have:=afx (n:=n) (p:=p) h.2;omega
 |n+1,.lst x ps,h=>by
  rw [sw,a5o,List.length_flatten,bB,fH];have:∀l:List Pa,(∀p∈l,POk tg n p)->(l.map (List.length ∘ sw)).sum<=6^n*l.length:=λl=>by
   induction l with
   |nil=>intro _;simp
   |cons a l ih =>
    intro hl
    have:=afx (hl a aI)
    have:=ih λp hp=>hl p (ay _ hp)
    rw [aT,iW,aH,Nat.mul_succ];show (sw a).length+_<=_;omega
  exact aW (this ps h.2.2) (Nat.mul_le_mul_left _ h.2.1)
def jb:Nat->SF
 |0=>λ_ _=>.no
 |n+1=>qb (a0t (jb n)) 1
theorem asx{n:Nat}{s:D}:jb (n+1) [s] []=toR (a0t (jb n) [some s] []):=by
 show qb (a0t (jb n)) 1 [s] []=_;rw [jf];rfl
theorem pu1{F:SF}{n:Nat}{ds:List D}{d:D}(hn:ds.length=n)(ca:∀x∈ds,MI.clo 0 x)(c:MI.clo 0 d)(e:F ds []=.ok d []):Pu F n ds d:=Pu.of hn ca e (a0c c (by simp)) c
theorem ahf{x:D}(c:MI.clo 0 x):∀y∈[x],MI.clo 0 y:=λy hy=>by rw [aD.mp hy];exact c
theorem apq(h:Nat):(hn h == "one")=false/\(hn h == "either")=false:=by
 rcases h with _|_|h
 .exact ⟨by decide,by decide⟩
 .exact ⟨by decide,by decide⟩
 .show (("times" : Str) == "one")=false/\(("times" : Str) == "either")=false;exact ⟨by decide,by decide⟩
theorem adv{tg:List Nat}:∀(d n:Nat),d<=n->d<=6->∀p,POk tg d p->Pu (jb n) 1 [pd p] (.str (S (sw p)))
 |0,_,_,_,_,k=>k.elim
 |d+1,0,h,_,_,_=>absurd h (by omega)
 |d+1,n+1,h,h6,p,k=>by
  refine pu1 rfl (ahf (a1b p)) (j5 _) (asx.trans ?_);unfold a0t;have z6:∀{q:Pa},POk tg (d+1) q->(sw q).length<=46656:=λhq=>aW (afx hq) (aW (dA (by decide) h6) (by decide))
  cases p with
  |one c =>
   rw [pd,sw];exact ah toR (nq (ap (ifT (by walk_at "x")) (jd (by walk_at "x"))))
  |eit j p =>
   have e:=adv d n (by omega) (by omega) p k.2
   rw [pd,sw];exact ap (ah toR (ifN (by walk_at "x"))) (ah toR (nq (ap (ifT (by walk_at "x")) (jd (by walk_at "x")))))
  |lst x ps =>
   have z:=z6 k;have e:∀p∈ps,Pu (jb n) 1 [pd p] (.str (S (sw p))):=λp hp=>adv d n (by omega) (by omega) p (k.2.2 p hp)
   have kl:ps.length<=6:=k.2.1;rw [sw,a5o] at z;rw [pd,a2l,sw,a5o];obtain ⟨h1,h2⟩:=apq x;refine ap (ah toR (ifN (tof (ig (ig (bw rfl) (gk _ _ _) ix0) (gk _ _ _) (apo h1))))) (ap (ah toR (ifN (tof (ig (ig (bw rfl) (gk _ _ _) ix0) (gk _ _ _) (apo h2))))) (ah toR (jd ?_)));refine K76.axd (z:=S []) (gk _ _ _) (arg1 (zx (m8 pd (λp=>.str (S (sw p))) ps (a7w (ig (bw rfl) (gk _ _ _) ix1) rfl) (du (by omega)) λp hp=>?_) (gw λ_ _=>j5 _) (by simp))) ?_
   .rw [sy];unfold a4g;exact tu (bw rfl) (e p hp _)
   .have:=K76.acg (ls:=ps.map sw) (h:=[]) (by omega)
    rw [bB] at this;exact this
inductive Gd:D->Prop
 |non:Gd .non
 |bl (b:Bool):Gd (.bl b)
 |int (i:Int):Gd (.int i)
 |str (x:Str) (h:x.cps.toList.length<=1000):Gd (.str x)
 |tup (xs:List D) (h:xs.length<=16) (g:∀x∈xs,Gd x):Gd (.tup xs)
 |rol (xs:List D) (c:clos 0 xs):Gd (.rol xs)
theorem Gd.clo{d:D}(g:Gd d):MI.clo 0 d:=by
 induction g with
 |non=>exact a05
 |bl b=>exact a7c _
 |int i=>exact dw _
 |str x _=>exact j5 _
 |tup xs _ _ ih=>exact kh (lu.mpr ih)
 |rol xs c=>exact qm c
theorem Gd.pln{d:D}(g:Gd d):Pln d:=by
 cases g with
 |non=>trivial
 |bl b=>trivial
 |int i=>trivial
 |str x h=>exact h
 |tup xs h g=>exact lu.mpr λx hx=>(g x hx).clo
 |rol xs c=>exact c
def isS:D->Bool|.str _=>true|_=>false
def isB:D->Bool|.bl _=>true|_=>false
def isI:D->Bool|.int _=>true|_=>false
theorem axg{d:D}{h:Hd}(p:Pln d):sr [d,.ty "str"] h=.ok (.bl (isS d)) h:=by
 cases d<;>first|(simp only [Pln] at p;done)|simp [sr,alu,tyD,ahk,isS]
theorem asy{d:D}{h:Hd}(p:Pln d):sr [d,.ty "int"] h=.ok (.bl (isI d || isB d)) h:=by
 cases d<;>first|(simp only [Pln] at p;done)|simp [sr,alu,tyD,ahk,isI,isB]
theorem axh{d:D}{h:Hd}(p:Pln d):sr [d,.ty "bool"] h=.ok (.bl (isB d)) h:=by
 cases d<;>first|(simp only [Pln] at p;done)|simp [sr,alu,tyD,ahk,isB]
theorem chT{g g':D->D->Hd->R D}{fa fb fc:SE}{τ:Sd}{h h1 h2 h3 h4 h5:Hd}{x y w v:D}(e1:fa τ h=.ok x h1)(e2:fb τ h1=.ok y h2)(e3:g x y h2=.ok (.bl true) h3)(e4:fc τ h3=.ok w h4)(e5:g' y w h4=.ok v h5):sCh g g' fa fb fc τ h=.ok v h5:=by
 unfold sCh;rw [e1,cj,e2,cj,e3,cj];dsimp only;rw [e4,cj,e5]
theorem chF{g g':D->D->Hd->R D}{fa fb fc:SE}{τ:Sd}{h h1 h2 h3:Hd}{x y:D}(e1:fa τ h=.ok x h1)(e2:fb τ h1=.ok y h2)(e3:g x y h2=.ok (.bl false) h3):sCh g g' fa fb fc τ h=.ok (.bl false) h3:=by
 unfold sCh;rw [e1,cj,e2,cj,e3,cj]
theorem leT{x y:Int}{h:Hd}(c:x<=y):gLe (.int x) (.int y) h=.ok (.bl true) h:=by unfold gLe;simp only [c,fD]
theorem leF{x y:Int}{h:Hd}(c:¬ x<=y):gLe (.int x) (.int y) h=.ok (.bl false) h:=by unfold gLe;simp only [c,eQ]
theorem apr{f:SE}{τ:Sd}{h h1:Hd}{b:Bool}(e:f τ h=.ok (.bl b) h1):ab9 f τ h=.ok (.bl (!b)) h1:=by unfold ab9;rw [e,cj]
def p6:SF:=qb a0e 1
theorem aky{d:D}(p:Pln d):Pu p6 1 [d] (.bl (isI d)):=by
 refine pu1 rfl (ahf p.clo) (a7c _) ?_;unfold p6;rw [jf];show toR (a0e [some d] [])=_;unfold a0e
 cases d with
 |int i=>exact ah toR (jd (ahc (ul (bw rfl) (gk _ _ _) (asy p)) (apr (ul (bw rfl) (gk _ _ _) (axh p)))))
 |bl b=>exact ah toR (jd (ahc (ul (bw rfl) (gk _ _ _) (asy p)) (apr (ul (bw rfl) (gk _ _ _) (axh p)))))
 |_=>exact ah toR (jd (PAP.ax6 (ul (bw rfl) (gk _ _ _) (asy p))))
def oW:Option (List Nat)->D
 |none=>.non
 |some w=>.str (S w)
theorem akz(o:Option (List Nat)):MI.clo 0 (oW o):=by cases o;exact a05;exact j5 _
mutual
def j4:Nat->SF
 |0=>λ_ _=>.no
 |n+1=>qb (a0f (jw n) p6 (j4 n)) 2
def jw:Nat->SF
 |0=>λ_ _=>.no
 |n+1=>qb (uw (j4 n)) 3
end
theorem al0{n:Nat}{s p:D}:j4 (n+1) [s,p] []=toR (a0f (jw n) p6 (j4 n) [some s,some p] []):=by
 rw [j4,jf];rfl
theorem asz{n:Nat}{s p:D}:jw (n+1) [s,p] []=toR (uw (j4 n) [some s,some p,none] []):=by
 rw [jw,jf];rfl
theorem aps{f:Sh->D->Option (List Nat)}:∀{ss:List Sh} {qs:List D},ss.length≠qs.length->wks f ss qs=none
 |[],[],h=>absurd rfl h
 |[],_::_,_=>rfl
 |_::_,[],_=>rfl
 |s::ss,q::qs,h=>by
  rw [wks,aps (ss:=ss) (qs:=qs) (by simpa using h)]
  cases f s q<;>rfl
theorem al2{f:Sh->D->Option (List Nat)}:∀{ss:List Sh} {qs:List D},ss.length=qs.length->(none∈(ss.zip qs).map (λp=>f p.1 p.2)->wks f ss qs=none)/\(none∉(ss.zip qs).map (λp=>f p.1 p.2)->∃ls:List (List Nat),(ss.zip qs).map (λp=>f p.1 p.2)=ls.map some/\wks f ss qs=some ls.flatten)
 |[],[],_=>⟨λh=>by simp at h,λ_=>⟨[],rfl,rfl⟩⟩
 |[],_::_,h=>by simp at h
 |_::_,[],h=>by simp at h
 |s::ss,q::qs,h=>by
  obtain ⟨a,b⟩:=al2 (f:=f) (ss:=ss) (qs:=qs) (by simpa using h)
  rw [List.zip_cons_cons,aT,wks]
  cases e:f s q with
  |none=>exact ⟨λ_=>rfl,λz=>absurd aI z⟩
  |some x =>
   refine ⟨λz=>?_,λz=>?_⟩
   .rw [a (by simpa using z)]
   .obtain ⟨ls,e1,e2⟩:=b λy=>z (ay _ y);exact ⟨x::ls,by rw [e1];rfl,by rw [e2];rfl⟩
theorem apt{rs:List (Option (List Nat))}{h:Hd}:gIn false .non (.rol (rs.map oW)) h=.ok (.bl (decide (none∈rs))) h:=by
 show (if a04 .non=true/\(rs.map oW).all a04=true then R.ok (D.bl (if false=true then !inD .non (rs.map oW) else inD .non (rs.map oW))) h else .no)=_
 rw [aE ⟨rfl,by rw [bY];intro x hx;obtain ⟨y,_,rfl⟩:=b6.mp hx;cases y<;>rfl⟩,aS (by decide)]
 congr 2
 unfold inD
 induction rs with
 |nil=>rfl
 |cons r rs ih =>
  rw [aT,gK,ih]
  cases r with
  |none=>rw [c8 (aI)];rfl
  |some x =>
   have:decide (none∈some x::rs)=decide (none∈rs):=decide_eq_decide.mpr (by simp)
   rw [this];rfl
theorem adw{n:Nat}{f:Sh->D->Option (List Nat)}{ss:List Sh}{parts p:D}(hp:parts=.tup (ss.map sd)\/parts=.rol (ss.map sd))(g:Gd p)(hf:∀s∈ss,∀qs,p=.tup qs->∀q∈qs,Pu (j4 n) 2 [sd s,q] (oW (f s q)))(hl:∀qs x,p=.tup qs->wks f ss qs=some x->x.length<=1000000) :
  Pu (jw (n+1)) 2 [parts,p] (oW (asw (wks f ss) p)):=by
 have cp:MI.clo 0 parts:=by rcases hp with rfl|rfl;exact kh (qt ss ▸ a5m ss);exact qm (qt ss ▸ a5m ss)
 refine pu1 rfl (by intro x hx;simp only [aC,bA,e9] at hx;rcases hx with rfl|rfl;exact cp;exact g.clo) (akz _) (asz.trans ?_)
 unfold uw;have l0:qu [parts] []=.ok (bc ss.length) []:=by rcases hp with rfl|rfl<;>(show R.ok (D.int ((ss.map sd).length:Nat)) _=_;rw [ax])
 have ip:sr [p,.ty "tuple"] []=.ok (.bl (isTup p)) []:=PAP.asp g.pln
 cases g with
 |tup qs z gq =>
  have ip:sr [.tup qs,.ty "tuple"] []=.ok (.bl true) []:=ip
  by_cases hlen:ss.length=qs.length
  .refine ap (ah toR (ifN (by walk_at "x"))) ?_
   have zi:ad1 (sV 0) (sV 1) [some parts,some (.tup qs),none] []=.ok ⟨(ss.zip qs).map λp=>.tup [sd p.1,p.2],λ_=>True⟩ []:=by
    unfold ad1;rw [bw rfl,cj,bw rfl,cj]
    rcases hp with rfl|rfl
    all_goals
     show R.ok (⟨((ss.map sd).zip qs).map λp=>.tup [p.1,p.2],λ_=>True/\True⟩:Itm) []=_;rw [List.zip_map_left,bB]
     congr 2
     funext _
     simp
   have cm:sZ (m5 (ad1 (sV 0) (sV 1)) (tN 2) (qg (j4 n)) []) [some parts,some (.tup qs),none] []=.ok (.rol (((ss.zip qs).map λp=>f p.1 p.2).map oW)) []:=by
    rw [bB];refine zx (m8 _ _ (ss.zip qs) zi (du (by simp;omega)) λp hp'=>?_) (gw λ_ _=>akz _) (by simp)
    obtain ⟨h1,h2⟩:=gP hp';show qg (j4 n) [some (sd p.1),some p.2] []=_;unfold qg;exact ul (bw rfl) (bw rfl) (hf _ h1 qs rfl _ h2 _)
   refine ap (ah toR (m7 cm)) ?_;obtain ⟨a,b⟩:=al2 (f:=f) hlen;show _=R.ok (oW (wks f ss qs)) []
   by_cases hn:none∈(ss.zip qs).map (λp=>f p.1 p.2)
   .rw [a hn];exact ah toR (nq (ap (ifT (tof (ig (gk _ _ _) (bw rfl) (apt.trans (by rw [c8 hn]))))) (jd (gk _ _ _))))
   .obtain ⟨ls,e1,e2⟩:=b hn;rw [e2];refine ap (ah toR (ifN (tof (ig (gk _ _ _) (bw rfl) (apt.trans (by rw [aY hn])))))) ?_
    have hz:ls.flatten.length<=1000000:=hl qs _ rfl e2;have j:=K76.acg (ls:=ls) (h:=[]) hz;refine ah toR (jd (K76.axd (z:=S []) (gk _ _ _) (arg1 (bw rfl)) ?_));rw [e1,bB];exact j
  .have e:asw (wks f ss) (.tup qs)=none:=aps hlen;rw [e];exact ah toR (nq (ap (ifT (orF (by walk_at "x") (by walk_at "x"))) (jd (gk _ _ _))))
 |_=>exact ah toR (nq (ap (ifT (orT (akk (a0z (ul (bw rfl) (gk _ _ _) ip) (ug _))))) (jd (gk _ _ _))))
theorem adx{f:Sh->D->Option (List Nat)}{B:Nat}:∀{ss:List Sh} {qs:List D} {x:List Nat},(∀s∈ss,∀q∈qs,∀y,f s q=some y->y.length<=B)->wks f ss qs=some x->x.length<=qs.length*B
 |[],[],x,_,e=>by cases e;simp
 |[],_::_,_,_,e=>by cases e
 |_::_,[],_,_,e=>by cases e
 |s::ss,q::qs,x,h,e=>by
  rw [wks] at e
  cases e1:f s q with
  |none=>rw [e1] at e;cases e
  |some y =>
   cases e2:wks f ss qs with
   |none=>rw [e1,e2] at e;cases e
   |some z =>
    rw [e1,e2] at e;cases e
    have a:=h s aI q aI y e1;have b:=adx (ss:=ss) (qs:=qs) (λs hs q hq=>h s (ay _ hs) q (ay _ hq)) e2;rw [av,aH,cZ];omega
theorem a6h{y:Str}{f:D->Option (List Nat)}{p:D}{x:List Nat}(e:two y f p=some x):∃a b,p=.tup [a,b]/\f b=some x:=by
 unfold two at e
 split at e
 .split at e
  .exact ⟨_,_,rfl,e⟩
  .cases e
 .cases e
theorem ahg{y:Str}{f:D->D->Option (List Nat)}{p:D}{x:List Nat}(e:three y f p=some x):∃a b c,p=.tup [a,b,c]/\f b c=some x:=by
 unfold three at e
 split at e
 .split at e
  .exact ⟨_,_,_,rfl,e⟩
  .cases e
 .cases e
theorem a83{f:List D->Option (List Nat)}{p:D}{x:List Nat}(e:asw f p=some x):∃qs,p=.tup qs/\f qs=some x:=by
 unfold asw at e
 split at e
 .exact ⟨_,rfl,e⟩
 .cases e
theorem Gd.of{xs:List D}(g:Gd (.tup xs)):xs.length<=16/\∀x∈xs,Gd x:=by cases g with|tup _ h g=>exact ⟨h,g⟩
theorem sub_len{n:Nat}{ss:List Sh}{qs:List D}{x:List Nat}(z:qs.length<=16)(h:∀s,∀q∈qs,∀y,wk n s q=some y->y.length<=16^(n-1))(e:wks (wk n) ss qs=some x):x.length<=16^n:=by
 cases n with
 |zero =>
  have:=adx (B:=0) (λs _ q _ y ey=>by cases ey) e
  omega
 |succ n =>
  have:=adx (λs _ q hq y ey=>h s q hq y ey) e
  rw [fH,iM];exact aW this (bM _ z)
theorem aci:∀{n:Nat} {s:Sh} {p:D} {x:List Nat},Gd p->wk n s p=some x->x.length<=16^(n-1)
 |0,_,_,_,_,e=>by cases e
 |n+1,.one s,p,x,g,e=>by
  obtain ⟨a,b,rfl,e1⟩:=a6h e;have:x.length=1:=by
   unfold axe at e1
   split at e1
   .split at e1
    .split at e1
     .cases e1;rfl
     .cases e1
    .cases e1
   .cases e1
  rw [this];exact iT (by decide)
 |n+1,.row ps,p,x,g,e=>by
  obtain ⟨a,b,rfl,e1⟩:=a6h e;obtain ⟨qs,rfl,e2⟩:=a83 e1;obtain ⟨z,gq⟩:=(g.of.2 (.tup qs) (by simp)).of
  exact sub_len z (λs q hq y ey=>aci (gq q hq) ey) e2
 |n+1,.eit ps,p,x,g,e=>by
  obtain ⟨a,b,c,rfl,e1⟩:=ahg e;unfold axf at e1
  split at e1
  .split at e1
   .obtain ⟨s,_,e2⟩:=Option.bind_eq_some_iff.mp e1;have:=aci (g.of.2 _ (by simp)) e2
    exact aW this (dA (by decide) (by omega))
   .cases e1
  .cases e1
 |n+1,.many s,p,x,g,e=>by
  obtain ⟨a,b,rfl,e1⟩:=a6h e;obtain ⟨qs,rfl,e2⟩:=a83 e1;obtain ⟨z,gq⟩:=(g.of.2 (.tup qs) (by simp)).of
  exact sub_len z (λs q hq y ey=>aci (gq q hq) ey) e2
 |n+1,.tim s lo hi,p,x,g,e=>by
  obtain ⟨a,b,rfl,e1⟩:=a6h e;obtain ⟨qs,rfl,e2⟩:=a83 e1;obtain ⟨z,gq⟩:=(g.of.2 (.tup qs) (by simp)).of
  split at e2
  .exact sub_len z (λs q hq y ey=>aci (gq q hq) ey) e2
  .cases e2
noncomputable def hdS:Sh->Str
 |.one _ => "one"
 |.row _ => "row"
 |.eit _ => "either"
 |.many _ => "many"
 |.tim _ _ _ => "times"
theorem at3(s:Sh)(h:Hd):gIx (sd s) (.int 0) h=.ok (.str (hdS s)) h:=by cases s<;>(rw [sd];exact ix0)
def Fits(s:Sh)(p:D):Prop:=∃b rest,p=.tup (.str (hdS s)::b::rest)
theorem azr{n:Nat}{s:Sh}{p:D}(h:¬ Fits s p):wk n s p=none:=by
 cases n with
 |zero=>rfl
 |succ n =>
  have t2:∀y f,y=hdS s->two y f p=none:=λy f hy=>by
   unfold two
   split
   .rename_i a b
    split
    .rename_i q
     cases a<;>first|(cases q;done)|skip
     rename_i x;exact absurd ⟨b,[],by rw [<-hy,eq_of_beq (a:=x) (b:=y) q]⟩ h
    .rfl
   .rfl
  have t3:∀y f,y=hdS s->three y f p=none:=λy f hy=>by
   unfold three
   split
   .rename_i a b c
    split
    .rename_i q
     cases a<;>first|(cases q;done)|skip
     rename_i x;exact absurd ⟨b,[c],by rw [<-hy,eq_of_beq (a:=x) (b:=y) q]⟩ h
    .rfl
   .rfl
  cases s with
  |one s=>exact t2 _ _ rfl
  |row s=>exact t2 _ _ rfl
  |eit s=>exact t3 _ _ rfl
  |many s=>exact t2 _ _ rfl
  |tim s _ _=>exact t2 _ _ rfl
def Wd(tg:List Nat)(d n:Nat):Prop:=∀s p,a3g tg d s->Gd p->Pu (j4 n) 2 [sd s,p] (oW (wk d s p))
section
variable{s:Sh}{p:D}{fm fn fw:SF}
theorem b2s(g:Gd p)(h:¬ Fits s p):sOr (a8b (aas (sA sr (aj (sV 1) (aj (sC (.ty "tuple")) bz))))) (sOr (sT (s2 gLt (sA qu (aj (sV 1) bz)) (sC (.int 2)))) (sOr (a8b (aas (sA sr (aj (s2 gIx (sV 1) (sC (.int 0))) (aj (sC (.ty "str")) bz))))) (sT (s2 hNe (s2 gIx (sV 1) (sC (.int 0))) (s2 gIx (sV 0) (sC (.int 0))))))) [some (sd s),some p] []=.ok true []:=by
 have ip:sr [p,.ty "tuple"] []=.ok (.bl (isTup p)) []:=PAP.asp g.pln
 cases g with
 |tup xs z gx =>
  have ip:sr [.tup xs,.ty "tuple"] []=.ok (.bl true) []:=ip;refine orF (ahm (a0z (ul (bw rfl) (gk _ _ _) ip) (ug _))) ?_
  by_cases h2:xs.length<2
  .exact orT (tof (ig (tu (bw rfl) EVT.uh) (gk _ _ _) (api (by omega))))
  .refine orF (tof (ig (tu (bw rfl) EVT.uh) (gk _ _ _) (apj (by omega)))) ?_
   cases xs with
   |nil=>exact absurd (show ([]:List D).length<2 by simp) h2
   |cons a xs =>
    cases xs with
    |nil=>exact absurd (show [a].length<2 by simp) h2
    |cons b xs =>
     have ia:sr [a,.ty "str"] []=.ok (.bl (isS a)) []:=axg (gx a aI).pln
     cases hs:isS a with
     |false =>
      rw [hs] at ia;exact orT (akk (a0z (ul (ig (bw rfl) (gk _ _ _) ix0) (gk _ _ _) ia) (ug _)))
     |true =>
      rw [hs] at ia;refine orF (ahm (a0z (ul (ig (bw rfl) (gk _ _ _) ix0) (gk _ _ _) ia) (ug _))) ?_;obtain ⟨x,rfl⟩:∃x,a=.str x:=by cases a<;>first|(cases hs;done)|exact ⟨_,rfl⟩
      have ne:(x == hdS s)=false:=by
       cases q:x == hdS s with
       |false=>rfl
       |true=>exact absurd ⟨b,xs,by rw [eq_of_beq q]⟩ h
      exact tof (ig (ig (bw rfl) (gk _ _ _) ix0) (ig (bw rfl) (gk _ _ _) (at3 s _)) (ay7 ne))
 |_=>exact orT (akk (a0z (ul (bw rfl) (gk _ _ _) ip) (ug _)))
theorem azs{b:D}{rest:List D}:sOr (a8b (aas (sA sr (aj (sV 1) (aj (sC (.ty "tuple")) bz))))) (sOr (sT (s2 gLt (sA qu (aj (sV 1) bz)) (sC (.int 2)))) (sOr (a8b (aas (sA sr (aj (s2 gIx (sV 1) (sC (.int 0))) (aj (sC (.ty "str")) bz))))) (sT (s2 hNe (s2 gIx (sV 1) (sC (.int 0))) (s2 gIx (sV 0) (sC (.int 0))))))) [some (sd s),some (.tup (.str (hdS s)::b::rest))] []=.ok false []:=by
 have i1:sr [.tup (.str (hdS s)::b::rest),.ty "tuple"] []=.ok (.bl true) []:=by simp [sr,alu,tyD,ahk]
 have i2:sr [.str (hdS s),.ty "str"] []=.ok (.bl true) []:=by simp [sr,alu,tyD,ahk]
 exact orF (ahm (a0z (ul (bw rfl) (gk _ _ _) i1) (ug _))) (orF (tof (ig (tu (bw rfl) EVT.uh) (gk _ _ _) (apj (by simp only [aH];omega)))) (orF (ahm (a0z (ul (ig (bw rfl) (gk _ _ _) ix0) (gk _ _ _) i2) (ug _))) (tof (ig (ig (bw rfl) (gk _ _ _) ix0) (ig (bw rfl) (gk _ _ _) (at3 s _)) asv))))
end
theorem at4(s:List Nat)(x:Str):axe s (.str x)=match x.cps.toList with|[c]=>if c∈s then some [c] else none|_=>none:=rfl
theorem afy{y:Str}{f:D->Option (List Nat)}{b:D}:two y f (.tup [.str y,b])=f b:=aE (cJ y)
theorem aog{y:Str}{f:D->D->Option (List Nat)}{b c:D}:three y f (.tup [.str y,b,c])=f b c:=aE (cJ y)
theorem at5{y:Str}{f:D->D->Option (List Nat)}{a b:D}:three y f (.tup [a,b])=none:=rfl
theorem al3{d:D}{k:Nat}{τ:Sd}{f g:SE}(ef:f τ []=.ok d [])(eg:g τ []=.ok (bc k) [])(c:MI.clo 0 d)(hk:k<=1000):sZ (s2 a1h (sZ (sA MI.uz (aj f bz))) g) τ []=.ok (.rol (List.replicate k d)) []:=by
 have h1:sZ (sA MI.uz (aj f bz)) τ []=.ok (.rol [d]) []:=EVT.ut (arg1 ef) rfl (bh c gf) (by simp) (by simp)
 have:=EVT.acf h1 eg rfl (bh c gf) (by simp) (by simp;omega) (by omega)
 rw [this];simp
theorem at6{x:Str}{c:Nat}(h:x.cps.toList=[c]):x=S [c]:=by rw [<-akf x,h]
theorem ahh(c:Nat)(t:List Nat)(h:Hd):gIn false (.str (S [c])) (.str (S t)) h=.ok (.bl (decide (c∈t))) h:=by
 show (match (S [c]).cps.toList with|[c]=>R.ok (D.bl (if false=true then !decide (c∈(S t).cps.toList) else decide (c∈(S t).cps.toList))) h|_=>.no)=_
 rw [aa0,aa0];rfl
theorem ady{tg:List Nat}{d n:Nat}(hd:d<=4)(ih:Wd tg d n)(ih':Wd tg d (n+1)):Wd tg (d+1) (n+2):=by
 intro s p ks g
 refine pu1 rfl (by intro x hx;simp only [aC,bA,e9] at hx;rcases hx with rfl|rfl;exact vo s;exact g.clo) (akz _) (al0.trans ?_)
 unfold a0f;have big:∀(ss:List Sh) qs x,Gd (.tup qs)->wks (wk d) ss qs=some x->x.length<=1000000:=λss qs x gq e=>by
  have a:=sub_len gq.of.1 (λs q hq y ey=>aci (gq.of.2 q hq) ey) e;exact aW a (aW (dA (by decide) hd) (by decide))
 by_cases fit:Fits s p
 .obtain ⟨b,rest,rfl⟩:=fit;refine ap (ah toR (ifN azs)) ?_;have gb:Gd b:=g.of.2 b (by simp)
  have ti:sr [b,.ty "tuple"] []=.ok (.bl (isTup b)) []:=PAP.asp gb.pln;have si:sr [b,.ty "str"] []=.ok (.bl (isS b)) []:=axg gb.pln
  cases s with
  |eit ps =>
   obtain ⟨k1,k2,k3⟩:=ks;rw [sd,qt];refine ah toR (nq (ap (ifT (by walk_at "x")) ?_))
   show _=Fl.rt (oW (three "either" _ _)) []
   rcases rest with _|⟨c,_|⟨c',r⟩⟩
   .rw [at5];exact nq (ap (ifT (orT (tof (ig (tu (bw rfl) EVT.uh) (gk _ _ _) (aab (by simp)))))) (jd (gk _ _ _)))
   .have gc:Gd c:=g.of.2 c (by simp)
    show _=Fl.rt (oW (three "either" _ (.tup [.str "either",b,c]))) [];rw [aog];have nb:=aky gb.pln;have l3:sT (s2 hNe (sA qu (aj (sV 1) bz)) (sC (.int 3))) [some (.tup [.str "either",.tup (ps.map sd)]),some (.tup [.str (hdS (.eit ps)),b,c])] []=.ok false []:=tof (ig (tu (bw rfl) EVT.uh) (gk _ _ _) (ac6 rfl))
    cases gb with
    |int i =>
     have nb:Pu p6 1 [.int i] (.bl true):=nb;have ln:qu [.tup (ps.map sd)] []=.ok (bc ps.length) []:=by rw [EVT.uh,ax]
     by_cases hi:0<=i/\i<(ps.length:Int)
     .obtain ⟨i,rfl⟩:=aU hi.1;have hi':i<ps.length:=by omega
      refine ap (ifN (orF l3 (orF (ahm (a0z (tu (ig (bw rfl) (gk _ _ _) ix1) (nb _)) (ug _))) (ahm (tof (chT (gk _ _ _) (ig (bw rfl) (gk _ _ _) ix1) (leT hi.1) (tu (ig (bw rfl) (gk _ _ _) ix1) ln) (api hi.2))))))) ?_;have e:=ih' ps[i] c (k3 _ (bZ hi')) gc [];refine jd (ul (ig (ig (bw rfl) (gk _ _ _) ix1) (ig (bw rfl) (gk _ _ _) ix1) (aoa (y:=sd ps[i]) (by rw [aN,ag hi'];rfl))) (ig (bw rfl) (gk _ _ _) ix2) (e.trans ?_))
      show _=R.ok (oW (if 0<=(i:Int)/\(i:Int)<(ps.length:Int) then _ else none)) []
      rw [aE hi];show _=R.ok (oW ((ps[(i:Int).toNat]?).bind λs=>wk d s c)) [];rw [cv,ag hi'];rfl
     .have:axf (λi q=>(ps[i]?).bind λs=>wk d s q) ps.length (.int i) c=none:=aS hi
      rw [this];have c3:sT (sCh gLe gLt (sC (.int 0)) (s2 gIx (sV 1) (sC (.int 1))) (sA qu (aj (s2 gIx (sV 0) (sC (.int 1))) bz))) [some (.tup [.str "either",.tup (ps.map sd)]),some (.tup [.str (hdS (.eit ps)),.int i,c])] []=.ok false []:=by
       by_cases h0:0<=i
       .exact tof (chT (gk _ _ _) (ig (bw rfl) (gk _ _ _) ix1) (leT h0) (tu (ig (bw rfl) (gk _ _ _) ix1) ln) (apj (by omega)))
       .exact tof (chF (gk _ _ _) (ig (bw rfl) (gk _ _ _) ix1) (leF h0))
      exact nq (ap (ifT (orF l3 (orF (ahm (a0z (tu (ig (bw rfl) (gk _ _ _) ix1) (nb _)) (ug _))) (akk c3)))) (jd (gk _ _ _)))
    |_=>exact nq (ap (ifT (orF l3 (orT (akk (a0z (tu (ig (bw rfl) (gk _ _ _) ix1) (nb _)) (ug _)))))) (jd (gk _ _ _)))
   .exact nq (ap (ifT (orT (tof (ig (tu (bw rfl) EVT.uh) (gk _ _ _) (aab (by simp only [aH];omega)))))) (jd (gk _ _ _)))
  |one s =>
   obtain ⟨k1,k2,k3⟩:=ks;rw [sd];refine ap (ah toR (ifN (by walk_at "x"))) ?_
   show _=R.ok (oW (two "one" _ _)) []
   rcases rest with _|⟨c,r⟩
   .refine ap (ah toR (ifN (tof (ig (tu (bw rfl) EVT.uh) (gk _ _ _) (ac6 rfl))))) ?_;show _=R.ok (oW (two "one" _ (.tup [.str "one",b]))) [];rw [afy];refine ah toR (nq (ap (ifT (by walk_at "x")) ?_))
    cases gb with
    |str x hx =>
     have si:sr [.str x,.ty "str"] []=.ok (.bl true) []:=si;have lx:qu [.str x] []=.ok (bc x.cps.toList.length) []:=by
      have:=a4o (l:=x.cps.toList) (h:=[]) (du (by omega))
      rwa [akf] at this
     rw [at4]
     by_cases h1:x.cps.toList.length=1
     .obtain ⟨c,hc⟩:=List.length_eq_one_iff.mp h1;rw [hc]
      cases at6 hc
      show _=Fl.rt (oW (if c∈s then some [c] else none)) []
      by_cases hcs:c∈s
      .rw [aE hcs];exact nq (ap (ifT (ahb (a0z (ul (ig (bw rfl) (gk _ _ _) ix1) (gk _ _ _) si) (ug _)) (ahb (tof (ig (tu (ig (bw rfl) (gk _ _ _) ix1) lx) (gk _ _ _) (akn (by rw [h1];rfl)))) (tof (ig (ig (bw rfl) (gk _ _ _) ix1) (ig (bw rfl) (gk _ _ _) ix1) ((ahh c s []).trans (by rw [c8 hcs]))))))) (jd (ig (bw rfl) (gk _ _ _) ix1)))
      .rw [aS hcs];exact ap (ifN (ahb (a0z (ul (ig (bw rfl) (gk _ _ _) ix1) (gk _ _ _) si) (ug _)) (ahb (tof (ig (tu (ig (bw rfl) (gk _ _ _) ix1) lx) (gk _ _ _) (akn (by rw [h1];rfl)))) (tof (ig (ig (bw rfl) (gk _ _ _) ix1) (ig (bw rfl) (gk _ _ _) ix1) ((ahh c s []).trans (by rw [aY hcs]))))))) (jd (gk _ _ _))
     .have:(match x.cps.toList with|[c]=>if c∈s then some [c] else none|_=>none)=none:=by
       split
       .rename_i q;rw [q] at h1;exact absurd rfl h1
       .rfl
      rw [this];exact ap (ifN (ahb (a0z (ul (ig (bw rfl) (gk _ _ _) ix1) (gk _ _ _) si) (ug _)) (alw (tof (ig (tu (ig (bw rfl) (gk _ _ _) ix1) lx) (gk _ _ _) (aob (by omega))))))) (jd (gk _ _ _))
    |_=>exact ap (ifN (alw (a0z (ul (ig (bw rfl) (gk _ _ _) ix1) (gk _ _ _) si) (ug _)))) (jd (gk _ _ _))
   .exact ah toR (nq (ap (ifT (tof (ig (tu (bw rfl) EVT.uh) (gk _ _ _) (aab (by simp only [aH];omega))))) (jd (gk _ _ _))))
  |row ps =>
   obtain ⟨k1,k2⟩:=ks;rw [sd,qt];refine ap (ah toR (ifN (by walk_at "x"))) ?_
   show _=R.ok (oW (two "row" _ _)) []
   rcases rest with _|⟨c,r⟩
   .refine ap (ah toR (ifN (tof (ig (tu (bw rfl) EVT.uh) (gk _ _ _) (ac6 rfl))))) ?_;show _=R.ok (oW (two "row" _ (.tup [.str "row",b]))) [];rw [afy];have m:=adw (n:=n) (f:=wk d) (ss:=ps) (.inl rfl) gb (λs hs qs hq q hq'=>ih s q (k2 s hs) ((hq ▸ gb).of.2 q hq')) (λqs x hq e=>big _ _ _ (hq ▸ gb) e) [];exact ap (ah toR (ifN (by walk_at "x"))) (ah toR (nq (ap (ifT (by walk_at "x")) (jd (ul (ig (bw rfl) (gk _ _ _) ix1) (ig (bw rfl) (gk _ _ _) ix1) m)))))
   .exact ah toR (nq (ap (ifT (tof (ig (tu (bw rfl) EVT.uh) (gk _ _ _) (aab (by simp only [aH];omega))))) (jd (gk _ _ _))))
  |many s =>
   rw [sd];refine ap (ah toR (ifN (by walk_at "x"))) ?_
   show _=R.ok (oW (two "many" _ _)) []
   rcases rest with _|⟨c,r⟩
   .refine ap (ah toR (ifN (tof (ig (tu (bw rfl) EVT.uh) (gk _ _ _) (ac6 rfl))))) ?_;show _=R.ok (oW (two "many" _ (.tup [.str "many",b]))) [];rw [afy];refine ap (ah toR (ifN (by walk_at "x"))) (ap (ah toR (ifN (by walk_at "x"))) ?_)
    cases id gb with
    |tup qs z gq =>
     have ti:sr [.tup qs,.ty "tuple"] []=.ok (.bl true) []:=ti;have m:=adw (n:=n) (f:=wk d) (ss:=List.replicate qs.length s) (.inr rfl) gb (λs' hs qs' hq q hq'=>by cases hq;rw [(fR.mp hs).2];exact ih s q ks (gq q hq')) (λqs x hq e=>big _ _ _ (hq ▸ gb) e) []
     rw [cX] at m;exact ap (ah toR (ifN (by walk_at "x"))) (ap (ah toR (ifN (alw (by walk_at "x")))) (ah toR (jd (ul (al3 (ig (bw rfl) (gk _ _ _) ix1) (tu (ig (bw rfl) (gk _ _ _) ix1) EVT.uh) (vo s) (by omega)) (ig (bw rfl) (gk _ _ _) ix1) m))))
    |_=>exact ah toR (nq (ap (ifT (akk (a0z (ul (ig (bw rfl) (gk _ _ _) ix1) (gk _ _ _) ti) (ug _)))) (jd (gk _ _ _))))
   .exact ah toR (nq (ap (ifT (tof (ig (tu (bw rfl) EVT.uh) (gk _ _ _) (aab (by simp only [aH];omega))))) (jd (gk _ _ _))))
  |tim s lo hi =>
   obtain ⟨k1,k2,k3⟩:=ks;rw [sd];refine ap (ah toR (ifN (by walk_at "x"))) ?_
   show _=R.ok (oW (two "times" _ _)) []
   rcases rest with _|⟨c,r⟩
   .refine ap (ah toR (ifN (tof (ig (tu (bw rfl) EVT.uh) (gk _ _ _) (ac6 rfl))))) ?_;show _=R.ok (oW (two "times" _ (.tup [.str "times",b]))) [];rw [afy];refine ap (ah toR (ifN (by walk_at "x"))) (ap (ah toR (ifN (by walk_at "x"))) ?_)
    cases id gb with
    |tup qs z gq =>
     have ti:sr [.tup qs,.ty "tuple"] []=.ok (.bl true) []:=ti;refine ap (ah toR (ifN (by walk_at "x"))) ?_
     show _=R.ok (oW (if lo<=qs.length/\qs.length<=hi then wks (wk d) (List.replicate qs.length s) qs else none)) []
     by_cases hq:lo<=qs.length/\qs.length<=hi
     .rw [aE hq];have m:=adw (n:=n) (f:=wk d) (ss:=List.replicate qs.length s) (.inr rfl) gb (λs' hs qs' hq q hq'=>by cases hq;rw [(fR.mp hs).2];exact ih s q k3 (gq q hq')) (λqs x hq e=>big _ _ _ (hq ▸ gb) e) []
      rw [cX] at m;refine ap (ah toR (ifN (ahb (by walk_at "x") (ahm (tof (chT (ig (bw rfl) (gk _ _ _) ix2) (tu (ig (bw rfl) (gk _ _ _) ix1) EVT.uh) (leT (by omega)) (ig (bw rfl) (gk _ _ _) ix3) (leT (by omega)))))))) (ah toR (jd (ul (al3 (ig (bw rfl) (gk _ _ _) ix1) (tu (ig (bw rfl) (gk _ _ _) ix1) EVT.uh) (vo s) (by omega)) (ig (bw rfl) (gk _ _ _) ix1) m)))
     .rw [aS hq];have c3:sT (sCh gLe gLe (s2 gIx (sV 0) (sC (.int 2))) (sA qu (aj (s2 gIx (sV 1) (sC (.int 1))) bz)) (s2 gIx (sV 0) (sC (.int 3)))) [some (.tup [.str "times",sd s,bc lo,bc hi]),some (.tup [.str (hdS (.tim s lo hi)),.tup qs])] []=.ok false []:=by
       by_cases h0:lo<=qs.length
       .exact tof (chT (ig (bw rfl) (gk _ _ _) ix2) (tu (ig (bw rfl) (gk _ _ _) ix1) EVT.uh) (leT (by omega)) (ig (bw rfl) (gk _ _ _) ix3) (leF (by omega)))
       .exact tof (chF (ig (bw rfl) (gk _ _ _) ix2) (tu (ig (bw rfl) (gk _ _ _) ix1) EVT.uh) (leF (by omega)))
      exact ah toR (nq (ap (ifT (ahb (by walk_at "x") (akk c3))) (jd (gk _ _ _))))
    |_=>exact ah toR (nq (ap (ifT (akk (a0z (ul (ig (bw rfl) (gk _ _ _) ix1) (gk _ _ _) ti) (ug _)))) (jd (gk _ _ _))))
   .exact ah toR (nq (ap (ifT (tof (ig (tu (bw rfl) EVT.uh) (gk _ _ _) (aab (by simp only [aH];omega))))) (jd (gk _ _ _))))
 .rw [azr fit];exact ah toR (nq (ap (ifT (b2s g fit)) (jd (gk _ _ _))))
theorem a84{tg:List Nat}:∀(d n:Nat),d<=5->2*d<=n->Wd tg d n
 |0,_,_,_=>λ_ _ k=>k.elim
 |d+1,0,_,h=>absurd h (by omega)
 |d+1,1,_,h=>absurd h (by omega)
 |d+1,n+2,h5,h=>ady (by omega) (a84 d n (by omega) (by omega)) (a84 d (n+1) (by omega) (by omega))
end SHD
local macro_rules|`(tactic|walk_at "l") => `(tactic|first|(with_reducible exact SHD.ix0)|(with_reducible exact SHD.ix1)|(with_reducible exact SHD.ix2)|(with_reducible exact SHD.ix3)|(with_reducible exact SHD.ay6)|((with_reducible apply SHD.apo);exact (by decide))|(with_reducible exact SHD.asv)|((with_reducible apply SHD.ay7);exact (by decide))|(with_reducible exact SHD.ach)|(with_reducible exact SHD.a3v))
namespace ENG
open L2 MI AT HND EVX SHD
open PAP hiding gh aly apl a65 afo aof
open SRC (cst aac)
abbrev lsD(l:List Nat):D:=.rol (l.map bc)
abbrev rwD(L:List (List Nat)):D:=.tup (L.map λl=>.tup (l.map bc))
theorem yc(l:List Nat):MI.clo 0 (lsD l):=qm (gw λ_ _=>dw _)
theorem a1t(l:List Nat):clos 0 (l.map bc):=gw λ_ _=>dw _
theorem a2m(L:List (List Nat)):MI.clo 0 (rwD L):=kh (gw λl _=>kh (a1t l))
theorem puL{F:SF}{k:Nat}{ds:List D}{ts:List Nat}{h1:Hd}{i:Nat}(hk:ds.length=k)(ca:∀x∈ds,MI.clo 0 x)(e:F ds []=.ok (.ref i) h1)(hi:h1[i]? = some (.lst (ts.map bc))):Pu F k ds (lsD ts) :=
 Pu.of hk ca e (a2p (bq _) hi (a1t ts) (by simp)) (yc ts)
theorem a1u{x y:D}(a:MI.clo 0 x)(b:MI.clo 0 y):∀z∈[x,y],MI.clo 0 z:=λz hz=>by
 simp only [aC,bA,e9] at hz;rcases hz with rfl|rfl;exact a;exact b
theorem a6i{x y w:D}(a:MI.clo 0 x)(b:MI.clo 0 y)(c:MI.clo 0 w):∀z∈[x,y,w],MI.clo 0 z:=λz hz=>by
 rcases aC.mp hz with rfl|hz;exact a;exact a1u b c z hz
theorem a85{x y w v:D}(a:MI.clo 0 x)(b:MI.clo 0 y)(c:MI.clo 0 w)(e:MI.clo 0 v):∀z∈[x,y,w,v],MI.clo 0 z:=λz hz=>by
 rcases aC.mp hz with rfl|hz;exact a;exact a6i b c e z hz
theorem geT{x y:Int}{h:Hd}(c:y<=x):gGe (.int x) (.int y) h=.ok (.bl true) h:=by
 show MI.R.ok (D.bl (decide (y<=x))) h=_;rw [c8 c]
theorem geF{x y:Int}{h:Hd}(c:¬ y<=x):gGe (.int x) (.int y) h=.ok (.bl false) h:=by
 show MI.R.ok (D.bl (decide (y<=x))) h=_;rw [aY c]
section
variable{n a:Nat}{R P:Rl}
theorem al4(h:Hd)(ha:a<=n):gIx (rwD (rw_ n R)) (bc a) h=.ok (.tup ((fl n R a).map bc)) h:=aoa (by rw [aN,azm ha];rfl)
theorem aal(ha:a<=n):fl n (· = ·) a=[a]:=(a1w (ts:=[a]) (by simp) (by simp) λe=>by
 rw [aD];exact ⟨λh=>by subst h;exact ⟨ha,rfl⟩,λh=>h.2.symm⟩).symm
def dg:SF:=qb abx 2
theorem a2w(hn:n+1<=60)(bp:Bd n P)(ha:a<=n):Pu dg 2 [rwD (rw_ n R),lsD (fl n P a)] (lsD (fl n (cmp P R) a)):=by
 obtain ⟨ts,fw,st,mem,e⟩:=afq (fi:=sIt (sV 1)) (fj:=sIt (s2 gIx (sV 2) (sV 0))) (ix:=[0]) (τ:=[some (rwD (rw_ n R)),some (lsD (fl n P a))]) (h:=[]) bc (fl n P a) (fl n R) hn (a7w (bw rfl) rfl) (λx hx=>a7w (ig (bw rfl) (bw rfl) (al4 _ (jx.mp hx).1)) rfl) (λx _ y hy=>aad y hy);have et:ts=fl n (cmp P R) a:=a1w fw.nd st λy=>by
  rw [mem]
  constructor
  .rintro ⟨x,hx,hy⟩;exact ⟨(jx.mp hy).1,x,(jx.mp hx).2,(jx.mp hy).2⟩
  .rintro ⟨hy,x,h1,h2⟩;exact ⟨x,jx.mpr ⟨(bp a x h1 ha).2,h1⟩,jx.mpr ⟨hy,h2⟩⟩
 rw [et] at e;refine puL rfl (a1u (a2m _) (yc _)) (h1:=[.lst ((fl n (cmp P R) a).map bc)]) (i:=0) ?_ rfl;unfold dg;rw [jf];exact ah toR (jd e)
def ph:SF:=qb (yo dg) 4
theorem at7(hn:n+1<=60)(ha:a<=n){Rs:List Rl}(bs:∀R∈Rs,Bd n R):Pu ph 2 [.rol (Rs.map λR=>rwD (rw_ n R)),bc a] (lsD (fl n (chn Rs) a)):=by
 refine pu1 rfl (a1u (qm (gw λR _=>a2m _)) (dw _)) (yc _) ?_;unfold ph;rw [jf];show toR (yo dg [some (.rol (Rs.map λR=>rwD (rw_ n R))),some (bc a),none,none] [])=_;unfold yo;have c0:sZ (sA MI.uz (aj (sV 1) bz)) [some (.rol (Rs.map λR=>rwD (rw_ n R))),some (bc a),none,none] []=.ok (lsD [a]) []:=EVT.ut (arg1 (bw rfl)) rfl (bh (dw _) gf) (by simp) (by simp)
 rw [<-aal ha] at c0;refine ap (ah toR (m7 c0)) ?_;refine ap (ah toR (a7v (a7w (bw rfl) rfl))) ?_;obtain ⟨τ',h',e,t3,rfl,rfl⟩:=vy (g:=kN 3) (b:=a0v dg) (λR:Rl=>rwD (rw_ n R)) (λpre τ h=>∃t3:Option D,τ=[some (.rol (Rs.map λR=>rwD (rw_ n R))),some (bc a),some (lsD (fl n (chn pre) a)),t3]/\h=[]) Rs [some (.rol (Rs.map λR=>rwD (rw_ n R))),some (bc a),some (lsD (fl n (chn []) a)),none] []
  (by
   rintro pre R post τ h al ⟨t3,rfl,rfl⟩
   refine ⟨_,_,rfl,_,_,afl (ul (bw rfl) (bw rfl) (a2w hn (a7y λT hT=>bs T (by rw [al];simp [hT])) ha _)),some (rwD (rw_ n R)),?_,rfl⟩
   rw [a4q]
   rfl) ⟨none,rfl,rfl⟩
 exact ap (ah toR (ah (λz=>MI.thn z _) e)) (ah toR (jd (bw rfl)))
theorem al5{p q:Nat->Bool}:∀{l:List Nat},(∀x∈l,p x=true->q x=true)->(l.filter p).length<=(l.filter q).length
 |[],_=>aA _
 |x::l,h=>by
  have ih:=al5 (l:=l) λy hy=>h y (ay _ hy)
  by_cases hp:p x=true
  .rw [cY hp,cY (h x aI hp)];exact Nat.succ_le_succ ih
  .rw [eG hp]
   by_cases hq:q x=true
   .rw [cY hq];exact Nat.le_succ_of_le ih
   .rw [eG hq];exact ih
theorem adz{p q:Nat->Bool}:∀{l:List Nat},(∀x∈l,p x=true->q x=true)->(l.filter q).length<=(l.filter p).length->∀x∈l,q x=true->p x=true
 |[],_,_,x,hx,_=>by cases hx
 |y::l,h,hl,x,hx,hq=>by
  have h':∀x∈l,p x=true->q x=true:=λz hz=>h z (ay _ hz);have le:=al5 h'
  by_cases hp:p y=true
  .rw [cY hp,cY (h y aI hp)] at hl
   rcases aC.mp hx with rfl|hx
   .exact hp
   .exact adz h' (Nat.le_of_succ_le_succ hl) x hx hq
  .rw [eG hp] at hl
   by_cases hy:q y=true
   .rw [cY hy,aH] at hl;omega
   .rw [eG hy] at hl
    rcases aC.mp hx with rfl|hx
    .exact absurd hq hy
    .exact adz h' hl x hx hq
theorem at8{T:Rl}(h:∀e,R a e->T a e)(hl:(fl n T a).length<=(fl n R a).length){e:Nat}(he:e<=n)(ht:T a e):R a e:=by
 have:=adz (l:=List.range (n+1)) (p:=λe=>@decide (R a e) (Classical.propDecidable _)) (q:=λe=>@decide (T a e) (Classical.propDecidable _)) (λx _ hx=>by simpa using h x (by simpa using hx)) hl e (bE.mpr (by omega)) (by simpa using ht)
 simpa using this
theorem al6{f g:SE}{τ:Sd}{l1 l2:List Nat}(hn:n+1<=60)(e1:f τ []=.ok (lsD l1) [])(e2:g τ []=.ok (lsD l2) [])(h1:∀x∈l1,x<n+1)(h2:∀x∈l2,x<n+1)(z1:l1.length<=2000)(z2:l2.length<=2000) :
  ∃ts:List Nat,ts.Nodup/\ts.Pairwise (·<=·)/\(∀y,y∈ts↔y∈l1\/y∈l2)/\sZ (sSU f g) τ []=.ok (lsD ts) []:=by
 obtain ⟨m,em,pm,sm⟩:=SRC.a5l ((l2.foldl stepK []).foldl stepK (l1.foldl stepK []));have F:Fw (n+1) ((l2.foldl stepK []).foldl stepK (l1.foldl stepK [])):=Fw.fold (Fw.fold .nil h1) λx hx=>(Fw.fold .nil h2).lt x hx;have c1:a7o (lsD l1) []=some (cst l1):=a1a l1 [];have c2:a7o (lsD l2) []=some (cst l2):=a1a l2 [];have fl:=F.len;refine ⟨m,pm.nodup_iff.mpr F.nd,sm,λy=>?_,zx ?_ (gw λ_ _=>dw _) (by simp)⟩
 .rw [pm.mem_iff,a2u,a2u,a2u];simp
 .unfold sSU;rw [e1,cj,c1];simp only;rw [aE (by unfold cst;rw [ax];exact z1),e2,cj,c2]
  simp only;rw [aE (by unfold cst;rw [ax];exact z2)]
  have x1:(cst l1).foldl stepK []=cst (l1.foldl stepK []):=a2j l1 [];have x2:(cst l2).foldl stepK []=cst (l2.foldl stepK []):=a2j l2 [];rw [x1,x2,a2j];unfold agy;rw [aE (by unfold cst;rw [ax];omega),em,<-aac]
def pq:SF:=qb (yp dg) 4
theorem at9(hn:n+1<=60)(ha:a<=n)(r:Bd n R):Pu pq 2 [rwD (rw_ n R),bc a] (lsD (fl n (star R) a)):=by
 refine pu1 rfl (a1u (a2m _) (dw _)) (yc _) ?_;unfold pq;rw [jf];show toR (yp dg [some (rwD (rw_ n R)),some (bc a),none,none] [])=_;unfold yp;have c1:sZ (sA MI.uz bz) [some (rwD (rw_ n R)),some (bc a),none,none] []=.ok (lsD []) []:=EVT.ut EVT.wz rfl gf (by simp) (by simp)
 refine ap (ah toR (m7 c1)) ?_;have c0:sZ (sA MI.uz (aj (sV 1) bz)) [some (rwD (rw_ n R)),some (bc a),some (lsD []),none] []=.ok (lsD [a]) []:=EVT.ut (arg1 (bw rfl)) rfl (bh (dw _) gf) (by simp) (by simp)
 have u0:[a]=fl n (upto R 0) a:=a1w (by simp) (by simp) λe=>by
  rw [aD]
  constructor
  .intro h;subst h;exact ⟨ha,0,aA _,rfl⟩
  .rintro ⟨_,k,hk,h⟩
   have:k=0:=by omega
   subst this;exact h.symm
 rw [u0] at c0;refine ap (ah toR (m7 c0)) ?_;have bu:∀j,Bd n (upto R j):=λj a e ⟨k,_,h⟩ ha=>ahd r k a e h ha;have lenl:∀(l:List Nat) (h:Hd),qu [lsD l] h=.ok (bc l.length) h:=λl h=>by rw [EVT.a8z,ax]
 have w:=az7 (c:=a0w dg) (f:=a0x dg)
  (λm τ h=>∃(j:Nat) (pl:List Nat),m+pl.length=n+2/\(j=0/\pl=[]\/∃i,j=i+1/\pl=fl n (upto R i) a)/\τ=[some (rwD (rw_ n R)),some (bc a),some (lsD pl),some (lsD (fl n (upto R j) a))]/\h=[])
  (λτ h=>h=[]/\∃t,τ=[some (rwD (rw_ n R)),some (bc a),some (lsD (fl n (star R) a)),t]) (λ_ _=>False) ?_ (n+2) 100000 _ [] (by omega) ⟨0,[],by simp,.inl ⟨rfl,rfl⟩,rfl,rfl⟩
 .rcases w with ⟨τ',h',e,rfl,t,rfl⟩|⟨_,_,_,z⟩
  .exact ap (ah toR (a3t e)) (ah toR (jd (bw rfl)))
  .exact z.elim
 .rintro m τ h ⟨j,pl,hm,hj,rfl,rfl⟩
  have fll:=a2i (n:=n) (a:=a) (R:=upto R j)
  by_cases gt:pl.length<(fl n (upto R j) a).length
  .refine .inr ⟨[],tof (ig (tu (bw rfl) (lenl _ _)) (tu (bw rfl) (lenl _ _)) (atl (by omega))),.inl ?_⟩
   have st:=a2w (R:=R) hn (bu j) ha;obtain ⟨ts,nd,srt,mem,eu⟩:=al6 (n:=n) (f:=sV 2) (g:=sA (kj false 2 dg) (aj (sV 0) (aj (sV 2) bz))) (τ:=[some (rwD (rw_ n R)),some (bc a),some (lsD (fl n (upto R j) a)),some (lsD (fl n (upto R j) a))]) hn (bw rfl) (ul (bw rfl) (bw rfl) (st _)) aad aad (by omega) (by have:=a2i (n:=n) (a:=a) (R:=cmp (upto R j) R);omega)
   have et:ts=fl n (upto R (j+1)) a:=a1w nd srt λy=>by
    rw [mem,jx,jx,a80]
    constructor
    .rintro (⟨h1,h2⟩|⟨h1,h2⟩)
     .exact ⟨h1,.inl h2⟩
     .exact ⟨h1,.inr h2⟩
    .rintro ⟨h1,h2|h2⟩
     .exact .inl ⟨h1,h2⟩
     .exact .inr ⟨h1,h2⟩
   rw [et] at eu;refine ⟨_,[],n+2-(fl n (upto R j) a).length,ap (m7 (bw rfl)) (afl eu),by omega,j+1,fl n (upto R j) a,by omega,.inr ⟨j,rfl,rfl⟩,rfl,rfl⟩
  .refine .inl ⟨[],tof (ig (tu (bw rfl) (lenl _ _)) (tu (bw rfl) (lenl _ _)) (atm (by omega))),rfl,?_⟩
   rcases hj with ⟨rfl,rfl⟩|⟨i,rfl,rfl⟩
   .rw [<-u0] at gt;simp at gt
   .have clos:∀b e,upto R i a b->R b e->upto R i a e:=λb e h1 h2 =>
     at8 (T:=upto R (i+1)) (λe h=>a80.mpr (.inl h)) (by omega) ((r b e h2 ((bu i a b h1 ha).2)).2) (a80.mpr (.inr ⟨b,h1,h2⟩))
    rw [adn (T:=star R) (b:=a) λe _=>(aod clos).symm];exact ⟨_,rfl⟩
def nu:SF:=qb (xr dg) 7
theorem axi{i:Nat}{h:Hd}{xs ys:List D}(e:h[i]? = some (.lst xs))(z:xs.length+ys.length<=1000000):amx (.ref i) [.rol ys] h=.ok .non (h.set i (.lst (xs++ys))):=by
 show (match h[i]?,ur (.rol ys) h with|some (.lst xs),some ys=>if xs.length+ys.length<=LINE then R.ok D.non (h.set i (.lst (xs++ys))) else .no|_,_=>.no)=_
 rw [e];show (if xs.length+ys.length<=LINE then R.ok D.non (h.set i (.lst (xs++ys))) else .no)=_
 rw [aE (du z)]
theorem aoh(hn:n+1<=60)(ha:a<=n)(r:Bd n R){lo hi:Nat}(h4:hi<=4):Pu nu 4 [rwD (rw_ n R),bc a,bc lo,bc hi] (lsD (fl n (btw R lo hi) a)):=by
 have c1:∀t4,sZ (sA MI.uz (aj (sV 1) bz)) [some (rwD (rw_ n R)),some (bc a),some (bc lo),some (bc hi),t4,none,none] [.lst []]=.ok (lsD [a]) [.lst []]:=λt4=>EVT.ut (arg1 (bw rfl)) rfl (bh (dw _) gf) (EVT.a3u (show ux 0 (.lst []) from gf (n:=0))) (by simp)
 rw [<-aal ha] at c1;obtain ⟨τ',h',e,fd,t6,rfl,rfl,fm,fll⟩:=vy (g:=kN 6) (b:=xq dg) bc (λpre τ h=>∃(fd:List Nat) (t6:Option D),τ=[some (rwD (rw_ n R)),some (bc a),some (bc lo),some (bc hi),some (.ref 0),some (lsD (fl n (pw R pre.length) a)),t6]/\h=[.lst (fd.map bc)]/\(∀e,e∈fd↔e<=n/\∃k,lo<=k/\k<pre.length/\pw R k a e)/\fd.length<=pre.length*(n+1)) (List.range (hi+1)) [some (rwD (rw_ n R)),some (bc a),some (bc lo),some (bc hi),some (.ref 0),some (lsD (fl n (pw R 0) a)),none] [.lst []]
  (by
   rintro pre i post τ h al ⟨fd,t6,rfl,rfl,fm,fll⟩
   have hi':i=pre.length/\pre.length<=hi:=by
    have h1:(List.range (hi+1))[pre.length]? = some i:=by rw [al,aB (aA _),dX];rfl
    obtain ⟨h2,h3⟩:=am.mp h1;rw [aF] at h2;rw [fT] at h3;omega
   obtain ⟨rfl,hp⟩:=hi';have lp:=a2i (n:=n) (a:=a) (R:=pw R pre.length);have fll':fd.length<=4*(n+1):=aW fll (bM _ (by omega))
   have st:=a2w (R:=R) hn (ahd r pre.length) ha;refine ⟨_,_,rfl,?_⟩;unfold xq
   by_cases hl:lo<=pre.length
   .refine ⟨_,_,ap (a3t (ap (ifT (tof (ig (bw rfl) (bw rfl) (geT (by omega))))) (akl (bw rfl) rfl (arg1 (bw rfl)) (axi (xs:=fd.map bc) rfl (by rw [ax,ax];omega))))) (afl (ul (bw rfl) (bw rfl) (st _))),fd++fl n (pw R pre.length) a,some (bc pre.length),?_,?_,λe=>?_,?_⟩
    .rw [av,aK];rfl
    .rw [cI];rfl
    .rw [aZ,fm,jx,av,aK]
     constructor
     .rintro (⟨h1,k,h2,h3,h4⟩|⟨h1,h2⟩)
      .exact ⟨h1,k,h2,by omega,h4⟩
      .exact ⟨h1,pre.length,hl,by omega,h2⟩
     .rintro ⟨h1,k,h2,h3,h4⟩
      by_cases q:k<pre.length
      .exact .inl ⟨h1,k,h2,q,h4⟩
      .have:k=pre.length:=by omega
       subst this;exact .inr ⟨h1,h4⟩
    .rw [av,av,aK,cZ];omega
   .refine ⟨_,_,ap (ifN (tof (ig (bw rfl) (bw rfl) (geF (by omega))))) (afl (ul (bw rfl) (bw rfl) (st _))),fd,some (bc pre.length),?_,rfl,λe=>?_,?_⟩
    .rw [av,aK];rfl
    .rw [fm,av,aK]
     constructor
     .rintro ⟨h1,k,h2,h3,h4⟩;exact ⟨h1,k,h2,by omega,h4⟩
     .rintro ⟨h1,k,h2,h3,h4⟩;exact ⟨h1,k,h2,by omega,h4⟩
    .rw [av,aK,cZ];omega) ⟨[],none,rfl,rfl,λe=>by simp,by simp⟩
 rw [aF] at fm fll;have fll':fd.length<=5*(n+1):=aW fll (bM _ (by omega))
 obtain ⟨ts,fw,srt,mem,es⟩:=a4r (l:=fd) (d:=.ref 0) (h:=[.lst (fd.map bc)]) hn (λy hy=>by have:=((fm y).mp hy).1;omega) (by omega) (a81 fd)
 have et:ts=fl n (btw R lo hi) a:=a1w fw.nd srt λy=>by
  rw [mem,fm]
  constructor
  .rintro ⟨h1,k,h2,h3,h4⟩;exact ⟨h1,k,h2,by omega,h4⟩
  .rintro ⟨h1,k,h2,h3,h4⟩;exact ⟨h1,k,h2,by omega,h4⟩
 rw [et] at es;refine puL rfl (a85 (a2m _) (dw _) (dw _) (dw _)) (h1:=[.lst (fd.map bc),.lst ((fl n (btw R lo hi) a).map bc)]) (i:=1) ?_ rfl;unfold nu;rw [jf];show toR (xr dg [some (rwD (rw_ n R)),some (bc a),some (bc lo),some (bc hi),none,none,none] [])=_;unfold xr;refine ap (ah toR (m7 (show sA MI.uz bz _ []=.ok (.ref 0) [.lst []] from rfl))) ?_
 refine ap (ah toR (m7 (c1 _))) ?_;have rg:∀t6 t5,sRg v4 (aj (s2 jo (sV 3) (sC (.int 1))) bz) [some (rwD (rw_ n R)),some (bc a),some (bc lo),some (bc hi),some (.ref 0),t5,t6] [.lst []]=.ok ⟨(List.range (hi+1)).map bc,λ_=>True⟩ [.lst []]:=λt6 t5=>xu (n:=hi+1) (ig (bw rfl) (gk _ _ _) ach) (du (by omega))
 refine ap (ah toR (a7v (rg _ _))) ?_;exact ap (ah toR (ah (λz=>MI.thn z _) e)) (ah toR (jd (afm (bw rfl) es)))
end
noncomputable def En(w:List Nat):Nat->Sh->Rl
 |0,_=>λ_ _=>False
 |d+1,s=>match s with
  |.one sg=>λa e=>∃c,w[a]? = some c/\c∈sg/\e=a+1
  |.row ps=>chn (ps.map (En w d))
  |.eit ps=>λa e=>∃p∈ps,En w d p a e
  |.many p=>star (En w d p)
  |.tim p lo hi=>btw (En w d p) lo hi
theorem a3w(w:List Nat):∀(d:Nat) (s:Sh),Bd w.length (En w d s)
 |0,_=>λ_ _ h=>h.elim
 |d+1,.one sg=>λa e ⟨c,h1,_,h3⟩ ha=>by
  have:=(am.mp h1).1
  omega
 |d+1,.row ps=>a7y λR hR=>by obtain ⟨p,_,rfl⟩:=b6.mp hR;exact a3w w d p
 |d+1,.eit ps=>λa e ⟨p,_,h⟩ ha=>a3w w d p a e h ha
 |d+1,.many p=>ado (a3w w d p)
 |d+1,.tim p lo hi=>ax9 (a3w w d p)
noncomputable def kids:Sh->List Sh
 |.one _=>[]
 |.row ps=>ps
 |.eit ps=>ps
 |.many p=>[p]
 |.tim p _ _=>[p]
theorem ae0{tg:List Nat}{d:Nat}{s:Sh}(k:a3g tg (d+1) s):(kids s).length<=6/\∀p∈kids s,a3g tg d p:=by
 cases s with
 |one s=>exact ⟨by simp [kids],by simp [kids]⟩
 |row ps=>exact k
 |eit ps=>exact ⟨k.2.1,k.2.2⟩
 |many p=>exact ⟨by simp [kids],λq hq=>by rw [aD.mp hq];exact k⟩
 |tim p lo hi=>exact ⟨by simp [kids],λq hq=>by rw [aD.mp hq];exact k.2.2⟩
theorem aam(l:List Sh):clos 0 (l.map sd):=gw λp _=>vo p
def uc:SF:=qb a9u 1
theorem aoi(s:Sh):Pu uc 1 [sd s] (.tup ((kids s).map sd)):=by
 refine pu1 rfl (ahf (vo s)) (kh (aam _)) ?_;unfold uc;rw [jf];show toR (a9u [some (sd s)] [])=_;unfold a9u
 cases s with
 |one s=>rw [sd];exact ah toR (nq (ap (ifT (by walk_at "x")) (jd (b0v PAP.apl))))
 |row ps =>
  rw [sd,qt];exact ap (ah toR (ifN (by walk_at "x"))) (ah toR (nq (ap (ifT (orT (by walk_at "x"))) (jd (ig (bw rfl) (gk _ _ _) ix1)))))
 |eit ps =>
  rw [sd,qt];exact ap (ah toR (ifN (by walk_at "x"))) (ah toR (nq (ap (ifT (orF (by walk_at "x") (by walk_at "x"))) (jd (ig (bw rfl) (gk _ _ _) ix1)))))
 |many p =>
  rw [sd];exact ap (ah toR (ifN (by walk_at "x"))) (ap (ah toR (ifN (orF (by walk_at "x") (by walk_at "x")))) (ah toR (jd (tu (ig (bw rfl) (gk _ _ _) ix1) PAP.aly))))
 |tim p lo hi =>
  rw [sd];exact ap (ah toR (ifN (by walk_at "x"))) (ap (ah toR (ifN (orF (by walk_at "x") (by walk_at "x")))) (ah toR (jd (tu (ig (bw rfl) (gk _ _ _) ix1) PAP.aly))))
section
variable{w:List Nat}{tg:List Nat}
abbrev rwE(w:List Nat)(d:Nat)(s:Sh):D:=rwD (rw_ w.length (En w d s))
def jk:SF:=qb (a1j ph pq nu) 4
theorem ata(hw:w.length+1<=60){d a:Nat}{s:Sh}(k:a3g tg (d+1) s)(ha:a<=w.length):Pu jk 4 [sd s,.rol ((kids s).map (rwE w d)),.str (S w),bc a] (lsD (fl w.length (En w (d+1) s) a)):=by
 have cl:∀x∈[sd s,.rol ((kids s).map (rwE w d)),.str (S w),bc a],MI.clo 0 x:=a85 (vo s) (qm (gw λ_ _=>a2m _)) (j5 _) (dw _);have go:jk [sd s,.rol ((kids s).map (rwE w d)),.str (S w),bc a] []=toR (a1j ph pq nu [some (sd s),some (.rol ((kids s).map (rwE w d))),some (.str (S w)),some (bc a)] []):=by
  unfold jk;rw [jf];rfl
 unfold a1j at go
 cases s with
 |one sg =>
  have lw:qu [.str (S w)] []=.ok (bc w.length) []:=a4o (du (by omega))
  rw [sd] at go cl ⊢
  by_cases h1:a<w.length
  .have x1:gIx (.str (S w)) (bc a) []=.ok (.str (S [w[a]])) []:=asm (du (by omega)) (ag h1)
   by_cases h2:w[a]∈sg
   .have et:[a+1]=fl w.length (En w (d+1) (.one sg)) a:=a1w (by simp) (by simp) λe=>by
     rw [aD]
     constructor
     .rintro rfl;exact ⟨by omega,w[a],ag h1,h2,rfl⟩
     .rintro ⟨_,c,_,_,h⟩;exact h
    rw [<-et];refine puL rfl cl (h1:=[.lst ([a+1].map bc)]) (i:=0) (go.trans ?_) rfl;exact ah toR (nq (ap (ifT (by walk_at "x")) (jd (EVT.b0w (ahb (tof (ig (bw rfl) (tu (bw rfl) lw) (api (by omega)))) (tof (ig (ig (bw rfl) (bw rfl) x1) (ig (bw rfl) (gk _ _ _) ix1) ((ahh _ _ []).trans (by rw [c8 h2]))))) (show sA MI.uz (aj (s2 jo (sV 3) (sC (.int 1))) bz) _ []=.ok (.ref 0) [.lst ([a+1].map bc)] from PAP.aof (arg1 (ig (bw rfl) (gk _ _ _) ach)) rfl)))))
   .have et:([]:List Nat)=fl w.length (En w (d+1) (.one sg)) a:=a1w (by simp) (by simp) λe=>by
     constructor
     .intro h;cases h
     .rintro ⟨_,c,hc,h,_⟩
      rw [ag h1] at hc;cases hc
      exact absurd h h2
    rw [<-et];refine puL rfl cl (h1:=[.lst (([]:List Nat).map bc)]) (i:=0) (go.trans ?_) rfl;exact ah toR (nq (ap (ifT (by walk_at "x")) (jd (EVT.azp (ahb (tof (ig (bw rfl) (tu (bw rfl) lw) (api (by omega)))) (tof (ig (ig (bw rfl) (bw rfl) x1) (ig (bw rfl) (gk _ _ _) ix1) ((ahh _ _ []).trans (by rw [aY h2]))))) rfl))))
  .have et:([]:List Nat)=fl w.length (En w (d+1) (.one sg)) a:=a1w (by simp) (by simp) λe=>by
    constructor
    .intro h;cases h
    .rintro ⟨_,c,hc,h,_⟩
     exact absurd (am.mp hc).1 h1
   rw [<-et];refine puL rfl cl (h1:=[.lst (([]:List Nat).map bc)]) (i:=0) (go.trans ?_) rfl;exact ah toR (nq (ap (ifT (by walk_at "x")) (jd (EVT.azp (alw (tof (ig (bw rfl) (tu (bw rfl) lw) (apj (by omega))))) rfl))))
 |row ps =>
  have t:=at7 (n:=w.length) (a:=a) hw ha (Rs:=ps.map (En w d)) λR hR=>by obtain ⟨p,_,rfl⟩:=b6.mp hR;exact a3w w d p
  rw [bB] at t;rw [sd,qt] at go cl ⊢;refine pu1 rfl cl (yc _) (go.trans ?_);exact ap (ah toR (ifN (by walk_at "x"))) (ah toR (nq (ap (ifT (by walk_at "x")) (jd (ul (bw rfl) (bw rfl) (t _))))))
 |eit ps =>
  obtain ⟨ts,fw,st,mem,e⟩:=afq (fi:=sIt (sV 1)) (fj:=sIt (s2 gIx (sV 0) (sV 2))) (ix:=[3]) (τ:=[some (.tup [.str "either",.tup (ps.map sd)]),some (.rol (ps.map (rwE w d))),some (.str (S w)),some (bc a)]) (h:=[]) (rwE w d) ps (λp=>fl w.length (En w d p) a) hw (a7w (bw rfl) rfl) (λx hx=>a7w (ig (bw rfl) (bw rfl) (al4 _ ha)) rfl) (λx _ y hy=>aad y hy);have et:ts=fl w.length (En w (d+1) (.eit ps)) a:=a1w fw.nd st λy=>by
   rw [mem]
   constructor
   .rintro ⟨p,hp,h⟩;exact ⟨(jx.mp h).1,p,hp,(jx.mp h).2⟩
   .rintro ⟨h1,p,hp,h⟩;exact ⟨p,hp,jx.mpr ⟨h1,h⟩⟩
  rw [et] at e;rw [sd,qt] at go cl ⊢;refine puL rfl cl (h1:=[.lst ((fl w.length (En w (d+1) (.eit ps)) a).map bc)]) (i:=0) (go.trans ?_) rfl;exact ap (ah toR (ifN (by walk_at "x"))) (ap (ah toR (ifN (by walk_at "x"))) (ah toR (nq (ap (ifT (by walk_at "x")) (jd e)))))
 |many p =>
  have t:=at9 (n:=w.length) (a:=a) hw ha (a3w w d p);have x0:gIx (.rol ((kids (.many p)).map (rwE w d))) (.int 0) []=.ok (rwE w d p) []:=afn (j:=0) rfl;rw [sd] at go cl ⊢;refine pu1 rfl cl (yc _) (go.trans ?_);exact ap (ah toR (ifN (by walk_at "x"))) (ap (ah toR (ifN (by walk_at "x"))) (ap (ah toR (ifN (by walk_at "x"))) (ah toR (nq (ap (ifT (by walk_at "x")) (jd (ul (ig (bw rfl) (gk _ _ _) x0) (bw rfl) (t _))))))))
 |tim p lo hi =>
  have t:=aoh (n:=w.length) (a:=a) hw ha (a3w w d p) (lo:=lo) (hi:=hi) k.2.1;have x0:gIx (.rol ((kids (.tim p lo hi)).map (rwE w d))) (.int 0) []=.ok (rwE w d p) []:=afn (j:=0) rfl;rw [sd] at go cl ⊢;refine pu1 rfl cl (yc _) (go.trans ?_);exact ap (ah toR (ifN (by walk_at "x"))) (ap (ah toR (ifN (by walk_at "x"))) (ap (ah toR (ifN (by walk_at "x"))) (ap (ah toR (ifN (by walk_at "x"))) (ah toR (jd (PAP.aof (PAP.gh (ig (bw rfl) (gk _ _ _) x0) (PAP.gh (bw rfl) (PAP.gh (ig (bw rfl) (gk _ _ _) ix2) (PAP.gh (ig (bw rfl) (gk _ _ _) ix3) EVT.wz)))) (t _)))))))
def tr(w:List Nat):Nat->Sh->D
 |0,_=>.non
 |d+1,s=>.tup [rwE w (d+1) s,.rol ((kids s).map (tr w d))]
theorem a86(w:List Nat):∀(d:Nat) (s:Sh),MI.clo 0 (tr w d s)
 |0,_=>a05
 |d+1,s=>kh (bh (a2m _) (bh (qm (gw λp _=>a86 w d p)) gf))
def ik:Nat->SF
 |0=>λ_ _=>.no
 |n+1=>qb (a00 (ik n) jk uc) 5
theorem al7(hw:w.length+1<=60):∀(d n:Nat),d<=n->∀s,a3g tg d s->Pu (ik n) 2 [sd s,.str (S w)] (tr w d s)
 |0,_,_,_,k=>k.elim
 |d+1,0,h,_,_=>absurd h (by omega)
 |d+1,n+1,h,s,k=>by
  obtain ⟨kl,kk⟩:=ae0 k;refine pu1 rfl (a1u (vo s) (j5 _)) (a86 w _ s) ?_;rw [ik,jf];show toR (a00 (ik n) jk uc [some (sd s),some (.str (S w)),none,none,none] [])=_;unfold a00;have c1:sZ (m5 (sIt (sA (kj false 1 uc) (aj (sV 0) bz))) MI.t1 (zb (ik n) jk uc) [1]) [some (sd s),some (.str (S w)),none,none,none] []=.ok (.rol ((kids s).map (tr w d))) []:=by
   refine zx (m8 sd (tr w d) (kids s) (a7w (tu (bw rfl) (aoi s _)) rfl) (du (by omega)) λp hp=>?_) (gw λp _=>a86 w d p) (by simp)
   rw [sy];unfold zb;exact ul (bw rfl) (bw rfl) (al7 hw d n (by omega) p (kk p hp) _)
  refine ap (ah toR (m7 c1)) ?_;have c2:sZ (m5 (sIt (sV 2)) (tN 2) (a1s (ik n) jk uc) []) [some (sd s),some (.str (S w)),some (.rol ((kids s).map (tr w d))),none,none] []=.ok (.rol ((kids s).map (rwE w d))) []:=by
   refine zx (m8 (tr w d) (rwE w d) (kids s) (a7w (bw rfl) rfl) (du (by omega)) λp hp=>?_) (gw λp _=>a2m _) (by simp)
   cases d with
   |zero=>exact (kk p hp).elim
   |succ d=>rfl
  refine ap (ah toR (m7 c2)) ?_;have lw:qu [.str (S w)] []=.ok (bc w.length) []:=a4o (du (by omega))
  have c3:sZ (m5 (sRg v4 (aj (s2 jo (sA qu (aj (sV 1) bz)) (sC (.int 1))) bz)) MI.t1 (zc (ik n) jk uc) [0,1,3]) [some (sd s),some (.str (S w)),some (.rol ((kids s).map (tr w d))),some (.rol ((kids s).map (rwE w d))),none] []=.ok (.rol ((List.range (w.length+1)).map λa=>.tup ((fl w.length (En w (d+1) s) a).map bc))) []:=by
   refine zx (m8 bc _ (List.range (w.length+1)) (xu (n:=w.length+1) (ig (tu (bw rfl) lw) (gk _ _ _) ach) (du (by omega))) (du (by rw [aF];omega)) λa ha=>?_) (gw λa _=>kh (a1t _)) (by simp)
   rw [sy];unfold zc;exact tu (PAP.aof (PAP.gh (bw rfl) (PAP.gh (bw rfl) (PAP.gh (bw rfl) (PAP.gh (bw rfl) EVT.wz)))) (ata hw k (by have:=bE.mp ha;omega) _)) rfl
  refine ap (ah toR (m7 c3)) ?_;refine ap (ah toR (jd (ul (tu (bw rfl) rfl) (bw rfl) a8x))) ?_;rw [tr];unfold rwE rw_ rwD;rw [bB];rfl
def pr(w:List Nat):Nat->Sh->List (List (List Nat))
 |0,_=>[]
 |d+1,s=>rw_ w.length (En w (d+1) s)::((kids s).map (pr w d)).flatten
theorem apu:∀{d:Nat} {s:Sh},a3g tg d s->(pr w d s).length<=7^d
 |0,_,k=>k.elim
 |d+1,s,k=>by
  obtain ⟨kl,kk⟩:=ae0 k;rw [pr,aH,List.length_flatten,bB,fH];have:∀l:List Sh,(∀p∈l,a3g tg d p)->(l.map (List.length ∘ pr w d)).sum<=7^d*l.length:=λl=>by
   induction l with
   |nil=>intro _;simp
   |cons a l ih =>
    intro hl
    have:=apu (hl a aI)
    have:=ih λp hp=>hl p (ay _ hp)
    rw [aT,iW,aH,Nat.mul_succ];show (pr w d a).length+_<=_;omega
  have h1:=aW (this (kids s) kk) (Nat.mul_le_mul_left _ kl);have h2:0<7^d:=iT (by decide)
  omega
end
abbrev rwL(n:Nat)(R:Rl):D:=.rol ((List.range (n+1)).map λa=>lsD (fl n R a))
theorem a0a(n:Nat)(R:Rl):MI.clo 0 (rwL n R):=qm (gw λ_ _=>yc _)
section
variable{n a:Nat}{R P:Rl}
theorem afz(h:Hd)(ha:a<=n):gIx (rwL n R) (bc a) h=.ok (lsD (fl n R a)) h:=afn (by rw [aN,dI (by omega)];rfl)
theorem al8{f g:SE}{τ:Sd}{h:Hd}{l1 l2:List Nat}(e1:f τ h=.ok (lsD l1) h)(e2:g τ h=.ok (lsD l2) h)(ch:∀u∈h,ux 0 u)(z:l1.length+l2.length<=1000000):sZ (s2 jo f g) τ h=.ok (lsD (l1++l2)) h:=by
 have:=EVT.aft e1 e2 rfl (a1t l1) (a1t l2) ch (by simpa using z)
 rw [this,<-cI]
theorem al9{f:SE}{τ:Sd}{h:Hd}{l:List Nat}{ts:List Nat}(e1:f τ h=.ok (lsD l) h)(ch:∀u∈h,ux 0 u)(e:a7p (lsD l) h=.ok (.ref h.length) (h++[.lst (ts.map bc)])):sZ (s1 a7p f) τ h=.ok (lsD ts) h:=EVT.akv (afm e1 e) rfl (a1t ts) ch
def iu:SF:=qb a4j 4
theorem axj(hn:n+1<=60)(bp:Bd n P)(ha:a<=n):Pu iu 2 [lsD (fl n P a),rwL n R] (lsD (fl n (cmp P R) a)):=by
 have lp:=a2i (n:=n) (a:=a) (R:=P);obtain ⟨τ',h',e,fd,t3,rfl,rfl,fm,fll⟩:=vy (g:=kN 3) (b:=a5x) bc (λpre τ h=>∃(fd:List Nat) (t3:Option D),τ=[some (lsD (fl n P a)),some (rwL n R),some (lsD fd),t3]/\h=[]/\(∀e,e∈fd↔∃x∈pre,e∈fl n R x)/\fd.length<=pre.length*(n+1)) (fl n P a) [some (lsD (fl n P a)),some (rwL n R),some (lsD []),none] []
  (by
   rintro pre x post τ h al ⟨fd,t3,rfl,rfl,fm,fll⟩
   have hx:x∈fl n P a:=by rw [al];simp
   have lx:=a2i (n:=n) (a:=x) (R:=R);have pl:pre.length<=n+1:=by
    have:=ah List.length al
    rw [av] at this;omega
   have f2:fd.length<=60*60:=aW fll (hZ (by omega) (by omega))
   refine ⟨_,_,rfl,_,_,afl (al8 (bw rfl) (ig (bw rfl) (bw rfl) (afz _ (jx.mp hx).1)) (by simp) (by omega)),fd++fl n R x,some (bc x),rfl,rfl,λe=>?_,?_⟩
   .rw [aZ,fm]
    constructor
    .rintro (⟨y,h1,h2⟩|h1)
     .exact ⟨y,by simp [h1],h2⟩
     .exact ⟨x,by simp,h1⟩
    .rintro ⟨y,h1,h2⟩
     rcases aZ.mp h1 with h1|h1
     .exact .inl ⟨y,h1,h2⟩
     .rw [aD.mp h1] at h2;exact .inr h2
   .rw [av,av,aK,cZ];omega) ⟨[],none,rfl,rfl,λe=>by simp,by simp⟩
 have f2:fd.length<=60*60:=aW fll (hZ (by omega) (by omega))
 obtain ⟨ts,fw,srt,mem,es⟩:=a4r (l:=fd) (d:=lsD fd) (h:=[]) hn (λy hy=>by obtain ⟨x,_,h⟩:=(fm y).mp hy;exact aad y h) (by omega) (a1a fd [])
 have et:ts=fl n (cmp P R) a:=a1w fw.nd srt λy=>by
  rw [mem,fm]
  constructor
  .rintro ⟨x,hx,hy⟩;exact ⟨(jx.mp hy).1,x,(jx.mp hx).2,(jx.mp hy).2⟩
  .rintro ⟨hy,x,h1,h2⟩;exact ⟨x,jx.mpr ⟨(bp a x h1 ha).2,h1⟩,jx.mpr ⟨hy,h2⟩⟩
 rw [et] at es;refine puL rfl (a1u (yc _) (a0a _ _)) (h1:=[.lst ((fl n (cmp P R) a).map bc)]) (i:=0) ?_ rfl;unfold iu;rw [jf];show toR (a4j [some (lsD (fl n P a)),some (rwL n R),none,none] [])=_;unfold a4j;refine ap (ah toR (m7 (EVT.ut EVT.wz rfl gf (by simp) (by simp)))) ?_
 refine ap (ah toR (a7v (a7w (bw rfl) rfl))) ?_;exact ap (ah toR (ah (λz=>MI.thn z _) e)) (ah toR (jd (afm (bw rfl) es)))
theorem ala(hn:n+1<=60)(bp:Bd n P){f:SI}{C:SE}{ix:List Nat}{τ:Sd}(e:f τ []=.ok ⟨(List.range (n+1)).map λa=>lsD (fl n P a),λ_=>True⟩ [])(st:∀a,C (some (lsD (fl n P a))::frs' ix τ) []=sA (kj false 2 iu) (aj (sV 0) (aj (sV 1) bz)) [some (lsD (fl n P a)),some (rwL n R)] []):sZ (m5 f MI.t1 C ix) τ []=.ok (rwL n (cmp P R)) []:=by
 refine zx (m8 (λa=>lsD (fl n P a)) _ (List.range (n+1)) e (du (by rw [aF];omega)) λa ha=>?_) (gw λ_ _=>yc _) (by simp)
 rw [sy,st];exact ul (bw rfl) (bw rfl) (axj hn bp (by have:=bE.mp ha;omega) _)
theorem a91{f:SI}{C:SE}{ix:List Nat}{τ:Sd}(hn:n+1<=60)(e:f τ []=.ok ⟨(List.range (n+1)).map bc,λ_=>True⟩ [])(st:∀a,C (some (bc a)::frs' ix τ) []=sZ (sA MI.uz (aj (sV 0) bz)) [some (bc a)] []):sZ (m5 f MI.t1 C ix) τ []=.ok (rwL n (· = ·)) []:=by
 refine zx (m8 bc _ (List.range (n+1)) e (du (by rw [aF];omega)) λa ha=>?_) (gw λ_ _=>yc _) (by simp)
 rw [sy,st,aal (by have:=bE.mp ha;omega)]
 exact EVT.ut (arg1 (bw rfl)) rfl (bh (dw _) gf) (by simp) (by simp)
def ju:SF:=qb (a4k iu) 4
theorem axk(hn:n+1<=60){Rs:List Rl}(bs:∀R∈Rs,Bd n R):Pu ju 2 [.rol (Rs.map (rwL n)),bc n] (rwL n (chn Rs)):=by
 refine pu1 rfl (a1u (qm (gw λR _=>a0a _ _)) (dw _)) (a0a _ _) ?_;unfold ju;rw [jf];show toR (a4k iu [some (.rol (Rs.map (rwL n))),some (bc n),none,none] [])=_;unfold a4k;refine ap (ah toR (m7 (a91 hn (xu (n:=n+1) (ig (bw rfl) (gk _ _ _) ach) (du (by omega))) λa=>rfl))) ?_
 refine ap (ah toR (a7v (a7w (bw rfl) rfl))) ?_;obtain ⟨τ',h',e,t3,rfl,rfl⟩:=vy (g:=kN 3) (b:=a5y iu) (rwL n) (λpre τ h=>∃t3:Option D,τ=[some (.rol (Rs.map (rwL n))),some (bc n),some (rwL n (chn pre)),t3]/\h=[]) Rs [some (.rol (Rs.map (rwL n))),some (bc n),some (rwL n (chn [])),none] []
  (by
   rintro pre R post τ h al ⟨t3,rfl,rfl⟩
   refine ⟨_,_,rfl,_,_,afl (ala (P:=chn pre) (R:=R) hn (a7y λT hT=>bs T (by rw [al];simp [hT])) (a7w (bw rfl) rfl) λa=>rfl),some (rwL n R),?_,rfl⟩
   rw [a4q]
   rfl) ⟨none,rfl,rfl⟩
 exact ap (ah toR (ah (λz=>MI.thn z _) e)) (ah toR (jd (bw rfl)))
def j6:SF:=qb (a1n iu) 6
theorem alb(hn:n+1<=60)(r:Bd n R){lo hi:Nat}(h4:hi<=4):Pu j6 3 [rwL n R,bc lo,bc hi] (rwL n (btw R lo hi)):=by
 refine pu1 rfl (a6i (a0a _ _) (dw _) (dw _)) (a0a _ _) ?_;unfold j6;rw [jf];show toR (a1n iu [some (rwL n R),some (bc lo),some (bc hi),none,none,none] [])=_;unfold a1n;have ln:∀h,qu [rwL n R] h=.ok (bc (n+1)) h:=λh=>by rw [EVT.a8z,ax,aF]
 refine ap (ah toR (m7 (a91 hn (xu (n:=n+1) (tu (bw rfl) (ln _)) (du (by omega))) λa=>rfl))) ?_
 have c2:∀t3,sZ (m5 (sRg v4 (aj (sA qu (aj (sV 0) bz)) bz)) MI.t1 (a3e iu) []) [some (rwL n R),some (bc lo),some (bc hi),t3,none,none] []=.ok (rwL n (λa e=>∃k,lo<=k/\k<0/\pw R k a e)) []:=λt3=>by
  refine zx (m8 bc _ (List.range (n+1)) (xu (n:=n+1) (tu (bw rfl) (ln _)) (du (by omega))) (du (by rw [aF];omega)) λa ha=>?_) (gw λ_ _=>yc _) (by simp)
  rw [sy];have:([]:List Nat)=fl n (λa e=>∃k,lo<=k/\k<0/\pw R k a e) a:=a1w (by simp) (by simp) λe=>⟨λh=>(by cases h),λ⟨_,k,_,h,_⟩=>(by omega)⟩
  rw [<-this];exact EVT.ut EVT.wz rfl gf (by simp) (by simp)
 refine ap (ah toR (m7 (c2 _))) ?_;refine ap (ah toR (a7v (xu (n:=hi+1) (ig (bw rfl) (gk _ _ _) ach) (du (by omega))))) ?_
 obtain ⟨τ',h',e,t5,rfl,rfl⟩:=vy (g:=kN 5) (b:=a0l iu) bc (λpre τ h=>∃t5:Option D,τ=[some (rwL n R),some (bc lo),some (bc hi),some (rwL n (pw R pre.length)),some (rwL n (λa e=>∃k,lo<=k/\k<pre.length/\pw R k a e)),t5]/\h=[]) (List.range (hi+1)) [some (rwL n R),some (bc lo),some (bc hi),some (rwL n (pw R 0)),some (rwL n (λa e=>∃k,lo<=k/\k<0/\pw R k a e)),none] []
  (by
   rintro pre i post τ h al ⟨t5,rfl,rfl⟩
   have hi':i=pre.length/\pre.length<=hi:=by
    have h1:(List.range (hi+1))[pre.length]? = some i:=by rw [al,aB (aA _),dX];rfl
    obtain ⟨h2,h3⟩:=am.mp h1;rw [aF] at h2;rw [fT] at h3;omega
   obtain ⟨rfl,hp⟩:=hi';have nx:∀t4,n6 3 (sZ (m5 (sIt (sV 3)) MI.t1 (a3f iu) [0])) [some (rwL n R),some (bc lo),some (bc hi),some (rwL n (pw R pre.length)),t4,some (bc pre.length)] []=.nx [some (rwL n R),some (bc lo),some (bc hi),some (rwL n (pw R (pre.length+1))),t4,some (bc pre.length)] []:=λt4=>afl (ala (P:=pw R pre.length) (R:=R) hn (ahd r _) (a7w (bw rfl) rfl) λa=>rfl);refine ⟨_,_,rfl,?_⟩;unfold a0l
   by_cases hl:lo<=pre.length
   .have zi:ad1 (sV 4) (sV 3) [some (rwL n R),some (bc lo),some (bc hi),some (rwL n (pw R pre.length)),some (rwL n (λa e=>∃k,lo<=k/\k<pre.length/\pw R k a e)),some (bc pre.length)] []=.ok ⟨(List.range (n+1)).map λa=>.tup [lsD (fl n (λa e=>∃k,lo<=k/\k<pre.length/\pw R k a e) a),lsD (fl n (pw R pre.length) a)],λ_=>True⟩ []:=by
     unfold ad1;rw [bw rfl,cj,bw rfl,cj];show MI.R.ok (⟨(((List.range (n+1)).map λa=>lsD (fl n (λa e=>∃k,lo<=k/\k<pre.length/\pw R k a e) a)).zip ((List.range (n+1)).map λa=>lsD (fl n (pw R pre.length) a))).map λp=>.tup [p.1,p.2],λ_=>True/\True⟩:Itm) []=_;rw [List.zip_map'];rw [bB]
     congr 2
     funext _
     simp
    have cz:sZ (m5 (ad1 (sV 4) (sV 3)) (tN 2) (yr iu) []) [some (rwL n R),some (bc lo),some (bc hi),some (rwL n (pw R pre.length)),some (rwL n (λa e=>∃k,lo<=k/\k<pre.length/\pw R k a e)),some (bc pre.length)] []=.ok (rwL n (λa e=>∃k,lo<=k/\k<pre.length+1/\pw R k a e)) []:=by
     refine zx (m8 _ _ (List.range (n+1)) zi (du (by rw [aF];omega)) λa ha=>?_) (gw λ_ _=>yc _) (by simp)
     show yr iu [some (lsD (fl n (λa e=>∃k,lo<=k/\k<pre.length/\pw R k a e) a)),some (lsD (fl n (pw R pre.length) a))] []=_;unfold yr;have l1:=a2i (n:=n) (a:=a) (R:=λa e=>∃k,lo<=k/\k<pre.length/\pw R k a e);have l2:=a2i (n:=n) (a:=a) (R:=pw R pre.length);obtain ⟨ts,fw,srt,mem,es⟩:=a4r (l:=fl n (λa e=>∃k,lo<=k/\k<pre.length/\pw R k a e) a++fl n (pw R pre.length) a) (d:=lsD (fl n (λa e=>∃k,lo<=k/\k<pre.length/\pw R k a e) a++fl n (pw R pre.length) a)) (h:=[]) hn (λy hy=>(aZ.mp hy).elim (aad y) (aad y)) (by rw [av];omega) (a1a _ [])
     have et:ts=fl n (λa e=>∃k,lo<=k/\k<pre.length+1/\pw R k a e) a:=a1w fw.nd srt λy=>by
      rw [mem,aZ,jx,jx]
      constructor
      .rintro (⟨h1,k,h2,h3,h4⟩|⟨h1,h2⟩)
       .exact ⟨h1,k,h2,by omega,h4⟩
       .exact ⟨h1,pre.length,hl,by omega,h2⟩
      .rintro ⟨h1,k,h2,h3,h4⟩
       by_cases q:k<pre.length
       .exact .inl ⟨h1,k,h2,q,h4⟩
       .have:k=pre.length:=by omega
        subst this;exact .inr ⟨h1,h4⟩
     rw [et] at es;exact al9 (al8 (bw rfl) (bw rfl) (by simp) (by omega)) (by simp) es
    refine ⟨_,_,ap (a3t (ap (ifT (tof (ig (bw rfl) (bw rfl) (geT (by omega))))) (afl cz))) (nx _),some (bc pre.length),?_,rfl⟩
    rw [av,aK]
   .refine ⟨_,_,ap (ifN (tof (ig (bw rfl) (bw rfl) (geF (by omega))))) (nx _),some (bc pre.length),?_,rfl⟩
    rw [av,aK];have:rwL n (λa e=>∃k,lo<=k/\k<pre.length/\pw R k a e)=rwL n (λa e=>∃k,lo<=k/\k<pre.length+1/\pw R k a e):=by
     unfold rwL
     congr 1
     refine ce λa _=>?_;rw [adn (T:=λa e=>∃k,lo<=k/\k<pre.length+1/\pw R k a e) (b:=a) λe _=>⟨λ⟨k,h1,h2,h3⟩=>⟨k,h1,by omega,h3⟩,λ⟨k,h1,h2,h3⟩=>⟨k,h1,by omega,h3⟩⟩]
    rw [this]) ⟨none,rfl,rfl⟩
 refine ap (ah toR (ah (λz=>MI.thn z _) e)) (ap (ah toR (jd (bw rfl))) ?_);rw [aF];have:rwL n (λa e=>∃k,lo<=k/\k<hi+1/\pw R k a e)=rwL n (btw R lo hi):=by
  unfold rwL
  congr 1
  refine ce λa _=>?_;rw [adn (T:=btw R lo hi) (b:=a) λe _=>⟨λ⟨k,h1,h2,h3⟩=>⟨k,h1,by omega,h3⟩,λ⟨k,h1,h2,h3⟩=>⟨k,h1,by omega,h3⟩⟩]
 rw [<-this];rfl
end
section
variable{n a:Nat}{R P:Rl}
def FF(n:Nat)(R:Rl)(i:Nat):List (List Nat):=(List.range (n+1)).map λx=>if n+1<=x+i then fl n (star R) x else [x]
theorem aoj{i x:Nat}(hx:x<=n):(FF n R i)[x]? = some (if n+1<=x+i then fl n (star R) x else [x]):=by
 unfold FF;rw [aN,dI (by omega)]
 rfl
theorem a66(i:Nat):(FF n R i).length=n+1:=by unfold FF;rw [ax,aF]
theorem axl{i:Nat}(hi:i<=n):(FF n R i).set (n-i) (fl n (star R) (n-i))=FF n R (i+1):=by
 refine eD λx=>?_
 by_cases hx:x<=n
 .rw [aoj hx,List.getElem?_set]
  by_cases q:n-i=x
  .rw [aE q,aE (by rw [a66];omega),aE (by omega),q]
  .rw [aS q,aoj hx]
   congr 1
   by_cases z:n+1<=x+i
   .rw [aE z,aE (by omega)]
   .rw [aS z,aS (by omega)]
 .rw [ba (by rw [eK,a66];omega),ba (by rw [a66];omega)]
theorem ae1(L:List (List Nat)):clos 0 (L.map lsD):=gw λ_ _=>yc _
theorem apv(L:List (List Nat)):∀u∈[O.lst (L.map lsD)],ux 0 u:=EVT.a3u (ae1 L)
def iz:SF:=qb a1m 4
theorem a6j(hn:n+1<=60)(r:Bd n R):Pu iz 1 [rwL n R] (rwL n (star R)):=by
 have ln:∀h,qu [rwL n R] h=.ok (bc (n+1)) h:=λh=>by rw [EVT.a8z,ax,aF]
 have ff0:((List.range (n+1)).map λa=>lsD [a])=(FF n R 0).map lsD:=by
  unfold FF;rw [bB];refine ce λx hx=>?_;have:=bE.mp hx;show _=lsD (if n+1<=x+0 then fl n (star R) x else [x])
  rw [aS (by omega)]
 have turn:∀(i:Nat) (t3:Option D),i<=n->∃t3',yq [some (rwL n R),some (.ref 0),some (bc (n-i)),t3] [.lst ((FF n R i).map lsD)]=.nx [some (rwL n R),some (.ref 0),some (bc (n-i)),t3'] [.lst ((FF n R (i+1)).map lsD)]:=λi t3 hi=>by
  have ha:n-i<=n:=by omega
  have lr:=a2i (n:=n) (a:=n-i) (R:=R);obtain ⟨τ',h',e,fd,t3',rfl,rfl,fm,fll⟩:=vy (g:=kN 3) (b:=a0k) bc (λpre τ h=>∃(fd:List Nat) (t3:Option D),τ=[some (rwL n R),some (.ref 0),some (bc (n-i)),t3]/\h=[.lst (((FF n R i).set (n-i) fd).map lsD)]/\(∀e,e∈fd↔e=n-i\/∃b∈pre,n-i<b/\e∈fl n (star R) b)/\fd.length<=1+pre.length*(n+1)) (fl n R (n-i)) [some (rwL n R),some (.ref 0),some (bc (n-i)),t3] [.lst ((FF n R i).map lsD)]
   (by
    rintro pre b post τ h al ⟨fd,t3,rfl,rfl,fm,fll⟩
    have hb:b∈fl n R (n-i):=by rw [al];simp
    have bn:b<=n:=(jx.mp hb).1;have pl:pre.length<=n+1:=by
     have:=ah List.length al
     rw [av] at this;omega
    have f2:fd.length<=1+60*60:=aW fll (fE (hZ (by omega) (by omega)) _)
    refine ⟨_,_,rfl,?_⟩;unfold a0k
    by_cases q:n-i<b
    .have lx:=a2i (n:=n) (a:=b) (R:=star R);have g1:gIx (.ref 0) (bc (n-i)) [.lst (((FF n R i).set (n-i) fd).map lsD)]=.ok (lsD fd) [.lst (((FF n R i).set (n-i) fd).map lsD)]:=akm (xs:=((FF n R i).set (n-i) fd).map lsD) rfl (by rw [aN,cD (by rw [a66];omega)];rfl)
     have g2:gIx (.ref 0) (bc b) [.lst (((FF n R i).set (n-i) fd).map lsD)]=.ok (lsD (fl n (star R) b)) [.lst (((FF n R i).set (n-i) fd).map lsD)]:=akm (xs:=((FF n R i).set (n-i) fd).map lsD) rfl (by rw [aN,dv (by omega),aoj bn,aE (by omega)];rfl)
     refine ⟨_,_,ap (ifT (tof (ig (bw rfl) (bw rfl) (atl (by omega))))) (ao9 (al8 (ig (bw rfl) (bw rfl) g1) (ig (bw rfl) (bw rfl) g2) (apv _) (by omega)) (bw rfl) (bw rfl) (ax5 (xs:=((FF n R i).set (n-i) fd).map lsD) rfl (by rw [ax,eK,a66];omega))),fd++fl n (star R) b,some (bc b),rfl,?_,λe=>?_,?_⟩
     .rw [cW,<-List.map_set,List.set_set]
     .rw [aZ,fm]
      constructor
      .rintro ((h1|⟨c,h1,h2,h3⟩)|h1)
       .exact .inl h1
       .exact .inr ⟨c,by simp [h1],h2,h3⟩
       .exact .inr ⟨b,by simp,q,h1⟩
      .rintro (h1|⟨c,h1,h2,h3⟩)
       .exact .inl (.inl h1)
       .rcases aZ.mp h1 with h1|h1
        .exact .inl (.inr ⟨c,h1,h2,h3⟩)
        .rw [aD.mp h1] at h3;exact .inr h3
     .rw [av,av,aK,cZ];omega
    .refine ⟨_,_,ifF (tof (ig (bw rfl) (bw rfl) (atm (by omega)))),fd,some (bc b),rfl,rfl,λe=>?_,?_⟩
     .rw [fm]
      constructor
      .rintro (h1|⟨c,h1,h2,h3⟩)
       .exact .inl h1
       .exact .inr ⟨c,by simp [h1],h2,h3⟩
      .rintro (h1|⟨c,h1,h2,h3⟩)
       .exact .inl h1
       .rcases aZ.mp h1 with h1|h1
        .exact .inr ⟨c,h1,h2,h3⟩
        .rw [aD.mp h1] at h2;exact absurd h2 q
     .rw [av,aK,cZ];omega)
   ⟨[n-i],t3,rfl,by
    have:(FF n R i).set (n-i) [n-i]=FF n R i:=by
     refine eD λx=>?_;rw [List.getElem?_set]
     by_cases q:n-i=x
     .subst q;rw [aE rfl,aE (by rw [a66];omega),aoj ha,aS (by omega)]
     .rw [aS q]
    rw [this],λe=>by simp,by simp⟩
  have f2:fd.length<=1+60*60:=aW fll (fE (hZ (by omega) (by omega)) _)
  obtain ⟨ts,fw,srt,mem,es⟩:=a4r (l:=fd) (d:=lsD fd) (h:=[.lst (((FF n R i).set (n-i) fd).map lsD)]) hn (λy hy=>by
   rcases (fm y).mp hy with h|⟨b,_,_,h⟩
   .omega
   .exact aad y h) (by omega) (a1a fd _)
  have et:ts=fl n (star R) (n-i):=a1w fw.nd srt λy=>by
   rw [mem,fm,ace r ha]
   constructor
   .rintro (rfl|⟨b,h1,h2,h3⟩)
    .exact ⟨ha,.inl rfl⟩
    .exact ⟨(jx.mp h3).1,.inr ⟨b,h2,(jx.mp h1).2,(jx.mp h3).2⟩⟩
   .rintro ⟨h1,rfl|⟨b,h2,h3,h4⟩⟩
    .exact .inl rfl
    .exact .inr ⟨b,jx.mpr ⟨(r _ b h3 ha).2,h3⟩,h2,jx.mpr ⟨h1,h4⟩⟩
  rw [et] at es;have g1:gIx (.ref 0) (bc (n-i)) [.lst (((FF n R i).set (n-i) fd).map lsD)]=.ok (lsD fd) [.lst (((FF n R i).set (n-i) fd).map lsD)]:=akm (xs:=((FF n R i).set (n-i) fd).map lsD) rfl (by rw [aN,cD (by rw [a66];omega)];rfl)
  refine ⟨t3',?_⟩;unfold yq;refine ap (a7v (a7w (ig (bw rfl) (bw rfl) (afz _ ha)) rfl)) ?_;refine ap (ah (λz=>MI.thn z _) e) ?_;rw [a5u];refine ap (ao9 (al9 (ig (bw rfl) (bw rfl) g1) (apv _) es) (bw rfl) (bw rfl) (ax5 (xs:=((FF n R i).set (n-i) fd).map lsD) rfl (by rw [ax,eK,a66];omega))) ?_
  rw [cW,<-List.map_set,List.set_set,axl hi]
 have rv:∀(τ:Sd) (h:Hd),τ[0]? = some (some (rwL n R))->sRg asa (aj (sA qu (aj (sV 0) bz)) bz) τ h=.ok ⟨(List.range (n+1)).map λi=>bc (n-i),λ_=>True⟩ h:=λτ h v=>by
  exact aw6 (n:=n+1) (tu (bw v) (ln _)) (du (by omega))
 obtain ⟨τ',h',e,t2,t3,rfl,rfl⟩:=vy (g:=kN 2) (b:=yq) (λi:Nat=>bc (n-i)) (λpre τ h=>∃t2 t3:Option D,τ=[some (rwL n R),some (.ref 0),t2,t3]/\h=[.lst ((FF n R pre.length).map lsD)]) (List.range (n+1)) [some (rwL n R),some (.ref 0),none,none] [.lst ((FF n R 0).map lsD)]
  (by
   rintro pre i post τ h al ⟨t2,t3,rfl,rfl⟩
   have hi':i=pre.length/\pre.length<=n:=by
    have h1:(List.range (n+1))[pre.length]? = some i:=by rw [al,aB (aA _),dX];rfl
    obtain ⟨h2,h3⟩:=am.mp h1;rw [aF] at h2;rw [fT] at h3;omega
   obtain ⟨rfl,hp⟩:=hi';obtain ⟨t3',e⟩:=turn pre.length t3 hp;exact ⟨_,_,rfl,_,_,e,_,_,rfl,by rw [av,aK]⟩) ⟨none,none,rfl,rfl⟩
 have fin:iz [rwL n R] []=.ok (.ref 0) [.lst ((FF n R (n+1)).map lsD)]:=by
  unfold iz;rw [jf];show toR (a1m [some (rwL n R),none,none,none] [])=_;unfold a1m;have c0:m5 (sRg v4 (aj (sA qu (aj (sV 0) bz)) bz)) MI.t1 a0j [] [some (rwL n R),none,none,none] []=.ok (.ref 0) [.lst ((FF n R 0).map lsD)]:=by
   rw [<-ff0];exact m8 bc (λa=>lsD [a]) (List.range (n+1)) (xu (n:=n+1) (tu (bw rfl) (ln _)) (du (by omega))) (du (by rw [aF];omega)) λa ha=>by
    rw [sy];unfold a0j;exact EVT.ut (arg1 (bw rfl)) rfl (bh (dw _) gf) (by simp) (by simp)
  refine ap (ah toR (m7 c0)) ?_;refine ap (ah toR (a7v (rv _ _ rfl))) ?_;refine ap (ah toR (ah (λz=>MI.thn z _) e)) (ap (ah toR (jd (bw rfl))) ?_);rw [aF];rfl
 have ff1:FF n R (n+1)=(List.range (n+1)).map (fl n (star R)):=ce λx _=>aE (by omega)
 have ffe:rwL n (star R)=.rol ((FF n R (n+1)).map lsD):=by rw [ff1,bB];rfl
 rw [ffe];exact Pu.of rfl (ahf (a0a _ _)) fin (a2p (bq _) rfl (ae1 _) (by simp)) (qm (ae1 _))
end
section
variable{w:List Nat}{tg:List Nat}
def j7:SF:=qb a1k 1
theorem ald{s:Sh}(h:∀sg,s≠.one sg):Pu j7 1 [sd s] (.tup ((kids s).map sd)):=by
 refine pu1 rfl (ahf (vo s)) (kh (aam _)) ?_;unfold j7;rw [jf];show toR (a1k [some (sd s)] [])=_;unfold a1k
 cases s with
 |one s=>exact absurd rfl (h s)
 |row ps =>
  rw [sd,qt];exact ap (ah toR (ifN (by walk_at "x"))) (ah toR (nq (ap (ifT (orT (by walk_at "x"))) (jd (ig (bw rfl) (gk _ _ _) ix1)))))
 |eit ps =>
  rw [sd,qt];exact ap (ah toR (ifN (by walk_at "x"))) (ah toR (nq (ap (ifT (orF (by walk_at "x") (by walk_at "x"))) (jd (ig (bw rfl) (gk _ _ _) ix1)))))
 |many p =>
  rw [sd];exact ap (ah toR (ifN (by walk_at "x"))) (ap (ah toR (ifN (orF (by walk_at "x") (by walk_at "x")))) (ah toR (jd (tu (ig (bw rfl) (gk _ _ _) ix1) PAP.aly))))
 |tim p lo hi =>
  rw [sd];exact ap (ah toR (ifN (by walk_at "x"))) (ap (ah toR (ifN (orF (by walk_at "x") (by walk_at "x")))) (ah toR (jd (tu (ig (bw rfl) (gk _ _ _) ix1) PAP.aly))))
noncomputable def prR(w:List Nat):Nat->Sh->List Rl
 |0,_=>[]
 |d+1,s=>En w (d+1) s::((kids s).map (prR w d)).flatten
theorem b0y(w:List Nat):∀(d:Nat) (s:Sh),pr w d s=(prR w d s).map (rw_ w.length)
 |0,_=>rfl
 |d+1,s=>by
  rw [pr,prR,aT,iI,bB]
  congr 2
  exact ce λp _=>b0y w d p
theorem atb{d:Nat}{s:Sh}(k:a3g tg d s):(prR w d s).length<=7^d:=by
 have:=apu (w:=w) k
 rwa [b0y,ax] at this
abbrev alD(w:List Nat)(d:Nat)(s:Sh):D:=.rol ((prR w d s).map (rwL w.length))
theorem azt(l:List Rl)(n:Nat):clos 0 (l.map (rwL n)):=gw λR _=>a0a n R
theorem apw(w:List Nat)(d:Nat)(s:Sh):MI.clo 0 (alD w d s):=qm (azt _ _)
def j8:Nat->SF
 |0=>λ_ _=>.no
 |n+1=>qb (a2g iz (j8 n) j7 ju j6) 6
theorem apx{n:Nat}{s x:D}:j8 (n+1) [s,x] []=toR (a2g iz (j8 n) j7 ju j6 [some s,some x,none,none,none,none] []):=by
 rw [j8,jf];rfl
theorem atc(hw:w.length+1<=60){n d:Nat}{sg:List Nat}:Pu (j8 (n+1)) 2 [sd (.one sg),.str (S w)] (alD w (d+1) (.one sg)):=by
 have cl:∀x∈[sd (.one sg),.str (S w)],MI.clo 0 x:=a1u (vo _) (j5 _);have fin:j8 (n+1) [sd (.one sg),.str (S w)] []=.ok (.ref 0) [.lst [rwL w.length (En w (d+1) (.one sg))]]:=by
  rw [apx];unfold a2g;have lw:qu [.str (S w)] []=.ok (bc w.length) []:=a4o (du (by omega))
  rw [sd];refine ap (ah toR (m7 (tu (bw rfl) lw))) ?_;refine ah toR (nq (ap (ifT (by walk_at "x")) (jd ?_)))
  refine PAP.aof (arg1 (?_:_=MI.R.ok (rwL w.length (En w (d+1) (.one sg))) [])) rfl;refine zx (m8 bc _ (List.range (w.length+1)) (xu (n:=w.length+1) (ig (bw rfl) (gk _ _ _) ach) (du (by omega))) (du (by rw [aF];omega)) λa ha=>?_) (gw λ_ _=>yc _) (by simp)
  rw [sy];show a2c _ _ _ _ _ [some (bc a),some (.tup [.str "one",.str (S sg)]),some (.str (S w))] []=_;unfold a2c;have ha:=bE.mp ha;have d1:sZ (sA MI.uz (aj (s2 jo (sV 0) (sC (.int 1))) bz)) [some (bc a),some (.tup [.str "one",.str (S sg)]),some (.str (S w))] []=.ok (lsD [a+1]) []:=EVT.ut (arg1 (ig (bw rfl) (gk _ _ _) ach)) rfl (bh (dw _) gf) (by simp) (by simp)
  have sl:abl (.str (S w)) (some ((a:Nat):Int)) (some ((a:Int)+1)) []=.ok (.str (S ((w.drop a).take 1))) []:=by
   have:=b2o (l:=w) (h:=[]) a (a+1) (du (by omega))
   rw [iB] at this;exact this
  have slx:∀τ:Sd,τ[0]? = some (some (bc a))->τ[2]? = some (some (.str (S w)))->a2a (sV 2) (oS (sV 0)) (oS (s2 jo (sV 0) (sC (.int 1)))) τ []=.ok (.str (S ((w.drop a).take 1))) []:=λτ h0 h2=>alx (bw h2) (ahn (bw h0)) (ahn (ig (bw h0) (gk _ _ _) ach)) sl;have cut:∀k:Nat,abl (lsD [a+1]) none (some (k:Int)) []=.ok (.ref 0) [.lst (([a+1].take k).map bc)]:=λk=>by
   show (MI.R.ok (D.ref 0) [O.lst (a4v ([a+1].map bc) none (some (k:Int)))])=_;rw [a9b,List.map_take]
  have fin:∀(b:Bool) (ts:List Nat),a3o (s2 hNe (a2a (sV 2) (oS (sV 0)) (oS (s2 jo (sV 0) (sC (.int 1))))) (sC (.str ""))) (s2 (gIn false) (a2a (sV 2) (oS (sV 0)) (oS (s2 jo (sV 0) (sC (.int 1))))) (s2 gIx (sV 1) (sC (.int 1)))) [some (bc a),some (.tup [.str "one",.str (S sg)]),some (.str (S w))] []=.ok (.bl b) []->[a+1].take (if b then 1 else 0)=ts->sZ (a2a (sZ (sA MI.uz (aj (s2 jo (sV 0) (sC (.int 1))) bz))) oN (oS (sA agg (aj (a3o (s2 hNe (a2a (sV 2) (oS (sV 0)) (oS (s2 jo (sV 0) (sC (.int 1))))) (sC (.str ""))) (s2 (gIn false) (a2a (sV 2) (oS (sV 0)) (oS (s2 jo (sV 0) (sC (.int 1))))) (s2 gIx (sV 1) (sC (.int 1))))) bz)))) [some (bc a),some (.tup [.str "one",.str (S sg)]),some (.str (S w))] []=.ok (lsD ts) []:=λb ts hb ht=>by
   subst ht;have gi:agg [.bl b] []=.ok (bc (if b then 1 else 0)) []:=by cases b<;>rfl
   exact zx (alx d1 EVT.aku (ahn (tu hb gi)) (cut _)) (a1t _) (by simp)
  by_cases h1:a<w.length
  .have e1:(w.drop a).take 1=[w[a]]:=by rw [bT h1];rfl
   rw [e1] at slx;have ne:hNe (.str (S [w[a]])) (.str "") []=.ok (.bl true) []:=by
    rw [asn];have:(S [w[a]] == ("" : Str))=false:=by
     have:=azf [w[a]] []
     rw [aY (by simp)] at this
     exact this
    rw [this];rfl
   by_cases h2:w[a]∈sg
   .refine fin true _ (ahc (ig (slx _ rfl rfl) (gk _ _ _) ne) (ig (slx _ rfl rfl) (ig (bw rfl) (gk _ _ _) ix1) ((ahh _ _ []).trans (by rw [c8 h2])))) ?_
    exact a1w (by simp) (by simp) λe=>by
     simp only [db,gV,fk,aD]
     constructor
     .rintro rfl;exact ⟨by omega,w[a],ag h1,h2,rfl⟩
     .rintro ⟨_,c,_,_,h⟩;exact h
   .refine fin false _ (ahc (ig (slx _ rfl rfl) (gk _ _ _) ne) (ig (slx _ rfl rfl) (ig (bw rfl) (gk _ _ _) ix1) ((ahh _ _ []).trans (by rw [aY h2])))) ?_
    exact a1w (by simp) (by simp) λe=>by
     constructor
     .intro h;simp at h
     .rintro ⟨_,c,hc,h,_⟩
      rw [ag h1] at hc;cases hc
      exact absurd h h2
  .have e1:(w.drop a).take 1=[]:=by rw [bJ (by omega)];rfl
   rw [e1] at slx;refine fin false _ (PAP.ax6 (ig (slx _ rfl rfl) (gk _ _ _) asv)) ?_;exact a1w (by simp) (by simp) λe=>by
    constructor
    .intro h;simp at h
    .rintro ⟨_,c,hc,h,_⟩
     exact absurd (am.mp hc).1 h1
 have e:alD w (d+1) (.one sg)=.rol [rwL w.length (En w (d+1) (.one sg))]:=rfl;rw [e];exact Pu.of rfl cl fin (a2p (bq _) rfl (bh (a0a _ _) gf) (by simp)) (qm (bh (a0a _ _) gf))
theorem apy(hw:w.length+1<=60):∀(d n:Nat),d<=n->d<=5->∀s,a3g tg d s->Pu (j8 n) 2 [sd s,.str (S w)] (alD w d s)
 |0,_,_,_,_,k=>k.elim
 |d+1,0,h,_,_,_=>absurd h (by omega)
 |d+1,n+1,h,h5,s,k=>by
  by_cases one:∃sg,s=.one sg
  .obtain ⟨sg,rfl⟩:=one;exact atc hw
  have none1:∀sg,s≠.one sg:=λsg z=>one ⟨sg,z⟩;obtain ⟨kl,kk⟩:=ae0 k;have big:(prR w (d+1) s).length<=16807:=aW (atb k) (aW (dA (by decide) h5) (by decide))
  have lw:qu [.str (S w)] []=.ok (bc w.length) []:=a4o (du (by omega))
  have hd1:(hdS s == "one")=false:=by
   cases s with
   |one sg=>exact absurd rfl (none1 sg)
   |row ps=>show (("row" : Str) == "one")=false;decide
   |eit ps=>show (("either" : Str) == "one")=false;decide
   |many ps=>show (("many" : Str) == "one")=false;decide
   |tim ps _ _=>show (("times" : Str) == "one")=false;decide
  have cl:∀x∈[sd s,.str (S w)],MI.clo 0 x:=a1u (vo _) (j5 _)
  let below:D:=.rol ((kids s).map (alD w d))
  let firsts:D:=.rol ((kids s).map λp=>rwL w.length (En w d p))
  have c1:sZ (m5 (sIt (sA (kj false 1 j7) (aj (sV 0) bz))) MI.t1 (a2d iz (j8 n) j7 ju j6) [1]) [some (sd s),some (.str (S w)),some (bc w.length),none,none,none] []=.ok below []:=by
   refine zx (m8 sd (alD w d) (kids s) (a7w (tu (bw rfl) (ald none1 _)) rfl) (du (by omega)) λp hp=>?_) (gw λp _=>apw w d p) (by simp)
   rw [sy];unfold a2d;exact ul (bw rfl) (bw rfl) (apy hw d n (by omega) (by omega) p (kk p hp) _)
  have c2:sZ (m5 (sIt (sV 3)) MI.t1 (a2e iz (j8 n) j7 ju j6) []) [some (sd s),some (.str (S w)),some (bc w.length),some below,none,none] []=.ok firsts []:=by
   refine zx (m8 (alD w d) _ (kids s) (a7w (bw rfl) rfl) (du (by omega)) λp hp=>?_) (gw λp _=>a0a _ _) (by simp)
   rw [sy];unfold a2e
   cases d with
   |zero=>exact (kk p hp).elim
   |succ d=>exact ig (bw rfl) (gk _ _ _) (afn (j:=0) rfl)
  have own:∀g:SS,jg (sIf (sT (s2 hEq (s2 gIx (sV 0) (sC (.int 0))) (sC (.str "many"))))
    (n6 5 (sA (kj false 1 iz) (aj (s2 gIx (sV 4) (sC (.int 0))) bz)))
    (sIf (sT (s2 hEq (s2 gIx (sV 0) (sC (.int 0))) (sC (.str "times"))))
    (n6 5 (sA (kj false 3 j6) (aj (s2 gIx (sV 4) (sC (.int 0))) (aj (s2 gIx (sV 0) (sC (.int 2))) (aj (s2 gIx (sV 0) (sC (.int 3))) bz)))))
    (sIf (sT (s2 hEq (s2 gIx (sV 0) (sC (.int 0))) (sC (.str "row"))))
    (n6 5 (sA (kj false 2 ju) (aj (sV 4) (aj (sV 2) bz))))
    (n6 5 (sZ (m5 (sRg v4 (aj (s2 jo (sV 2) (sC (.int 1))) bz)) MI.t1 (a0g iz (j8 n) j7 ju j6) [4]))))))
    g [some (sd s),some (.str (S w)),some (bc w.length),some below,some firsts,none] []=g [some (sd s),some (.str (S w)),some (bc w.length),some below,some firsts,some (rwL w.length (En w (d+1) s))] []:=λg=>by
   refine a3t ?_
   cases s with
   |one sg=>exact absurd rfl (none1 sg)
   |many p =>
    have t:=a6j (n:=w.length) hw (a3w w d p);rw [sd];exact ap (ifT (by walk_at "x")) (afl (tu (ig (bw rfl) (gk _ _ _) (afn (j:=0) rfl)) (t _)))
   |tim p lo hi =>
    have t:=alb (n:=w.length) hw (a3w w d p) (lo:=lo) (hi:=hi) k.2.1;rw [sd];exact ap (ifF (by walk_at "x")) (ap (ifT (by walk_at "x")) (afl (ax3 (ig (bw rfl) (gk _ _ _) (afn (j:=0) rfl)) (ig (bw rfl) (gk _ _ _) ix2) (ig (bw rfl) (gk _ _ _) ix3) (t _))))
   |row ps =>
    have t:=axk (n:=w.length) hw (Rs:=ps.map (En w d)) λR hR=>by obtain ⟨p,_,rfl⟩:=b6.mp hR;exact a3w w d p
    rw [bB] at t;rw [sd,qt];exact ap (ifF (by walk_at "x")) (ap (ifF (by walk_at "x")) (ap (ifT (by walk_at "x")) (afl (ul (bw rfl) (bw rfl) (t _)))))
   |eit ps =>
    rw [sd,qt];refine ap (ifF (by walk_at "x")) (ap (ifF (by walk_at "x")) (ap (ifF (by walk_at "x")) (afl ?_)))
    refine zx (m8 bc _ (List.range (w.length+1)) (xu (n:=w.length+1) (ig (bw rfl) (gk _ _ _) ach) (du (by omega))) (du (by rw [aF];omega)) λa ha=>?_) (gw λ_ _=>yc _) (by simp)
    rw [sy];show a0g _ _ _ _ _ [some (bc a),some (.rol (ps.map λp=>rwL w.length (En w d p)))] []=_;unfold a0g;have ha:=bE.mp ha;have q1:sZ (m5 (sIt (sV 1)) MI.t1 (a2f iz (j8 n) j7 ju j6) [0]) [some (bc a),some (.rol (ps.map λp=>rwL w.length (En w d p)))] []=.ok (.rol ((ps.map λp=>(fl w.length (En w d p) a).map bc).map D.rol)) []:=by
     rw [bB];refine zx (m8 (λp=>rwL w.length (En w d p)) _ ps (a7w (bw rfl) rfl) (du (by have:ps.length<=6:=kl;omega)) λp hp=>?_) (gw λp _=>yc _) (by simp)
     rw [sy];unfold a2f;exact ig (bw rfl) (bw rfl) (afz _ (by omega))
    have q2:sZ (sA MI.uz bz) [some (bc a),some (.rol (ps.map λp=>rwL w.length (En w d p)))] []=.ok (.rol []) []:=EVT.ut EVT.wz rfl gf (by simp) (by simp)
    have fle:((ps.map λp=>(fl w.length (En w d p) a).map bc)).flatten=((ps.map λp=>fl w.length (En w d p) a).flatten).map bc:=by rw [iI,bB];rfl
    have fll:((ps.map λp=>fl w.length (En w d p) a).flatten).length<=6*60:=by
     have:∀l:List Sh,((l.map λp=>fl w.length (En w d p) a).flatten).length<=l.length*60:=λl=>by
      induction l with
      |nil=>simp
      |cons p l ih =>
       have:=a2i (n:=w.length) (a:=a) (R:=En w d p)
       rw [aT,bb,av,aH,cZ];omega
     exact aW (this ps) (bM _ kl)
    have q3:=afs q1 q2 (du (by rw [fle,ax];omega)) (by rw [fle];exact a1t _) (by simp)
    rw [fle] at q3;obtain ⟨ts,fw,srt,mem,es⟩:=a4r (l:=(ps.map λp=>fl w.length (En w d p) a).flatten) (d:=lsD ((ps.map λp=>fl w.length (En w d p) a).flatten)) (h:=[]) hw (λy hy=>by
     obtain ⟨l,hl,hy⟩:=gH.mp hy;obtain ⟨p,_,rfl⟩:=b6.mp hl;exact aad y hy) (by omega) (a1a _ [])
    have et:ts=fl w.length (En w (d+1) (.eit ps)) a:=a1w fw.nd srt λy=>by
     rw [mem,gH]
     constructor
     .rintro ⟨l,hl,hy⟩
      obtain ⟨p,hp,rfl⟩:=b6.mp hl;exact ⟨(jx.mp hy).1,p,hp,(jx.mp hy).2⟩
     .rintro ⟨h1,p,hp,h2⟩
      exact ⟨_,b6.mpr ⟨p,hp,rfl⟩,jx.mpr ⟨h1,h2⟩⟩
    rw [et] at es;exact al9 q3 (by simp) es
  have fin:j8 (n+1) [sd s,.str (S w)] []=.ok (.ref 0) [.lst ((prR w (d+1) s).map (rwL w.length))]:=by
   rw [apx];unfold a2g;refine ap (ah toR (m7 (tu (bw rfl) lw))) ?_;refine ap (ah toR (ifN (tof (ig (ig (bw rfl) (gk _ _ _) (at3 s _)) (gk _ _ _) (apo hd1))))) ?_;refine ap (ah toR (m7 c1)) (ap (ah toR (m7 c2)) (ap (ah toR (own _)) ?_));have z1:sZ (sA MI.uz (aj (sV 5) bz)) [some (sd s),some (.str (S w)),some (bc w.length),some below,some firsts,some (rwL w.length (En w (d+1) s))] []=.ok (.rol [rwL w.length (En w (d+1) s)]) []:=EVT.ut (arg1 (bw rfl)) rfl (bh (a0a _ _) gf) (by simp) (by simp)
   have q2:sZ (sA MI.uz bz) [some (sd s),some (.str (S w)),some (bc w.length),some below,some firsts,some (rwL w.length (En w (d+1) s))] []=.ok (.rol []) []:=EVT.ut EVT.wz rfl gf (by simp) (by simp)
   have be:below=.rol (((kids s).map λp=>(prR w d p).map (rwL w.length)).map D.rol):=by
    show D.rol _=_;rw [bB];rfl
   have fe:(((kids s).map λp=>(prR w d p).map (rwL w.length))).flatten=(((kids s).map (prR w d)).flatten).map (rwL w.length):=by rw [iI,bB];rfl
   have lb:(((kids s).map (prR w d)).flatten).length<=16806:=by
    rw [prR,aH] at big;omega
   have q3:=afs (f:=sV 3) (g:=sZ (sA MI.uz bz)) (τ:=[some (sd s),some (.str (S w)),some (bc w.length),some below,some firsts,some (rwL w.length (En w (d+1) s))]) (h:=[]) (zss:=(kids s).map λp=>(prR w d p).map (rwL w.length)) (by rw [be];exact bw rfl) q2 (du (by rw [fe,ax];omega)) (by rw [fe];exact azt _ _) (by simp)
   rw [fe] at q3;refine ah toR (jd (ig z1 q3 ?_));rw [ad3 (xs:=[rwL w.length (En w (d+1) s)]) (ys:=(((kids s).map (prR w d)).flatten).map (rwL w.length)) rfl rfl,aE (du (by rw [aK,ax];omega))]
   rfl
  exact Pu.of rfl cl fin (a2p (bq _) rfl (azt _ _) (by simp)) (apw _ _ _)
end
theorem a4u(l:List Nat):(l.map λc=>[c]).flatten=l:=by
 induction l with
 |nil=>rfl
 |cons c l ih=>rw [aT,bb,ih];rfl
def jz:SF:=qb (a2q PN.az) 4
theorem atd{tg:List Nat}{most N:Nat}{o:O}(t1:1<=tg.length)(t6:tg.length<=1000)(hm:most<=1000)(P:PN.Pen o N)(hN:N<=900000000):∃x o',Dr jz 3 [.str (S tg),bc most] o (.str (S x)) o'/\x.length<=most/\(∀c∈x,c∈tg)/\PN.Pen o' (N+1+most):=by
 obtain ⟨r,o1,e1,r0,r1,P1⟩:=PN.p7 (m:=(most:Int)+1) P (by omega) (by omega) (by omega)
 obtain ⟨r,rfl⟩:=aU r0;obtain ⟨cs,o2,e2,q,P2,cl⟩:=a6g (hs:=[]) (fi:=sRg v4 (aj (sV 3) bz)) (t:=MI.t1) (fe:=a1l PN.az) (ix:=[0,1]) (τ:=[some (.ref 0),some (.str (S tg)),some (bc most),some (bc r)]) (B:=1) (M:=N+1+most) (List.range r) bc (λc:Nat=>.str (S [c])) (λ_ c=>c∈tg) P1 (by rw [aF];omega) (by rw [aF];omega) (by simp)
  (xu (n:=r) (bw rfl) (du (by omega))) (λx hx o N' P' hN'=>by
   obtain ⟨j,o3,e3,j0,j1,P3⟩:=PN.p7 (m:=(tg.length:Int)) P' (by omega) (by omega) (by omega)
   obtain ⟨j,rfl⟩:=aU j0;have hj:j<tg.length:=by omega
   refine ⟨tg[j],o3,?_,j5 _,bZ hj,P3⟩;rw [sy];unfold a1l;show s2 gIx (sV 2) (sA (kj false 2 PN.az) (aj (sV 1) (aj (sA qu (aj (sV 2) bz)) bz))) [some (bc x),some (.ref 0),some (.str (S tg))] [o]=_;exact ig (bw rfl) (ul (bw rfl) (tu (bw rfl) (a4o (du (by omega)))) (e3 0 _ rfl)) (asm (du (by omega)) (ag hj)))
 rw [aF] at P2;have lc:cs.length=r:=by rw [q.len,aF]
 refine ⟨cs,o2,dr1 rfl (a1u (j5 _) (dw _)) P.clo ?_ (j5 _) P2.clo,by omega,λc hc=>by obtain ⟨_,_,h⟩:=q.rt c hc;exact h,P2.up (by omega)⟩
 unfold jz;rw [jf];show toR (a2q PN.az [some (.ref 0),some (.str (S tg)),some (bc most),none] [o])=_;unfold a2q;refine ap (ah toR (m7 (ul (bw rfl) (ig (bw rfl) (gk _ _ _) ach) (e1 0 _ rfl)))) ?_;have j:=K76.acg (ls:=cs.map λc=>[c]) (h:=[o2]) (by rw [a4u];omega)
 rw [bB,a4u] at j;exact ah toR (jd (K76.axd (z:=S []) (gk _ _ _) (arg1 e2) j))
theorem aok{tg:List Nat}(t1:1<=tg.length)(t6:tg.length<=6)(nd:tg.Nodup){o:O}{N m:Nat}{hs:Hd}{ds:List Int}{K:SA}{τ:Sd}(P:PN.Pen o N)(hN:N<=800000000)(ch:∀u∈hs,ux 0 u)(hd:∀v∈ds,0<=v/\v<=23)(hm:ds.length=m)(m0:0<m)(m1:m<=100)
  (hz:K τ (o::hs)=.ok (ds.map D.int) (o::hs)) (v1:τ[1]? = some (some (.ref 0))) (v2:τ[2]? = some (some (.str (S tg)))) :
  ∃s o' hs',sA (kj false 4 (fu 5)) (aj (sV 1) (aj (sA MI.uz (aj (s2 gIx (sZ (sA MI.uz K)) (sA (kj false 2 PN.az) (aj (sV 1) (aj (sC (.int (m:Nat))) bz)))) bz)) (aj (sC (.int 5)) (aj (sV 2) bz)))) τ (o::hs)=.ok (sd s) (o'::hs')/\a3g tg 5 s/\(∀u∈hs',ux 0 u)/\PN.Pen o' (N+3361401):=by
 have b5:bnd 5=3361400:=by decide
 obtain ⟨q,o1,e1,q0,q1,P1⟩:=PN.p7 (m:=(m:Int)) P (by omega) (by omega) (by omega)
 obtain ⟨q,rfl⟩:=aU q0;have hq:q<ds.length:=by omega
 have x3:gIx (.rol (ds.map D.int)) (.int (q:Nat)) (o1::hs)=.ok (.int ds[q]) (o1::hs):=afn (by rw [aN,ag hq];rfl)
 obtain ⟨v0,v23⟩:=hd _ (bZ hq);have co:∀u∈o::hs,ux 0 u:=λu hu=>by rcases aC.mp hu with rfl|hu;exact P.clo;exact ch u hu
 obtain ⟨s,o2,m',ks,e2,P2,m0',m1'⟩:=afu t1 t6 nd 4 4 (by decide) (by decide) o1 (N+1) ds[q] P1 (by rw [b5];omega) v0 v23
 refine ⟨s,o2,hs++[.lst [.int m']],?_,ks,λu hu=>?_,P2.up (by rw [b5];omega)⟩
 .have dr:kj false 4 (fu 5) [.ref 0,.ref (o1::hs).length,bc 5,.str (S tg)] ((o1::hs)++[.lst [.int ds[q]]])=.ok (sd s) (o2::(hs++[.lst [.int m']])):=by
   refine (e2 0 (o1::hs).length ((o1::hs)++[.lst [.int ds[q]]]) (by simp) rfl (by rw [aB (aA _),dX];rfl)).trans ?_
   congr 1
   rw [dN,cW,aH,dQ,List.set_append_right _ _ (aA _),dX];rfl
  have lst1:MI.uz [.int ds[q]] (o1::hs)=.ok (.ref (o1::hs).length) ((o1::hs)++[.lst [.int ds[q]]]):=aE (du (by simp))
  exact PAP.aof (PAP.gh (bw v1) (PAP.gh (PAP.aof (PAP.gh (ig (EVT.ut hz rfl (gw λ_ _=>dw _) co (by rw [ax];omega)) (ul (bw v1) (gk _ _ _) (e1 0 _ rfl)) x3) EVT.wz) lst1) (PAP.gh (gk _ _ _) (PAP.gh (bw v2) EVT.wz)))) dr
 .rcases aZ.mp hu with hu|hu
  .exact ch u hu
  .rw [aD.mp hu];exact a2k _
theorem signs_at{o:O}{N:Nat}{τ:Sd}(P:PN.Pen o N)(hN:N<=900000000)(v1:τ[1]? = some (some (.ref 0))) :
  ∃tg o',sA (kj false 3 PN.iy) (aj (sV 1) (aj (sA (kj false 0 PN.ji) bz) (aj (s2 gIx (sZ (sA MI.uz (aj (sC (.int 3)) (aj (sC (.int 3)) (aj (sC (.int 3)) (aj (sC (.int 6)) bz)))))) (sA (kj false 2 PN.az) (aj (sV 1) (aj (sC (.int 4)) bz)))) bz))) τ [o]=.ok (.str (S tg)) [o']/\1<=tg.length/\tg.length<=6/\tg.Nodup/\(∀c∈tg,c∈sig)/\PN.Pen o' (N+8):=by
 obtain ⟨q,o1,e1,q0,q1,P1⟩:=PN.p7 (m:=4) P (by omega) (by decide) (by decide)
 obtain ⟨q,rfl⟩:=aU q0;have x3:∃m:Nat,1<=m/\m<=6/\gIx (.rol [.int 3,.int 3,.int 3,.int 6]) (.int (q:Nat)) [o1]=.ok (bc m) [o1]:=by
  rcases q with _|_|_|_|q
  .exact ⟨3,by decide,by decide,rfl⟩
  .exact ⟨3,by decide,by decide,rfl⟩
  .exact ⟨3,by decide,by decide,rfl⟩
  .exact ⟨6,by decide,by decide,rfl⟩
  .omega
 obtain ⟨m,m0,m1,x3⟩:=x3;obtain ⟨tg,o2,t1,t6,nd,sb,e2,P2⟩:=PN.akt (most:=m) (all:=sig) P1 (by omega) m0 (by rw [akh];omega) (by rw [akh];omega) ax0
 have dz:sZ (sA MI.uz (aj (sC (.int 3)) (aj (sC (.int 3)) (aj (sC (.int 3)) (aj (sC (.int 6)) bz))))) τ [o]=.ok (.rol [.int 3,.int 3,.int 3,.int 6]) [o]:=EVT.ut (PAP.gh (gk _ _ _) (PAP.gh (gk _ _ _) (PAP.gh (gk _ _ _) (PAP.gh (gk _ _ _) EVT.wz)))) rfl (bh (dw _) (bh (dw _) (bh (dw _) (bh (dw _) gf)))) (EVT.a3u P.clo) (by decide)
 exact ⟨tg,o2,ax3 (bw v1) (b0v (PN.aaa _)) (ig dz (ul (bw v1) (gk _ _ _) (e1 0 _ rfl)) x3) (e2 0 _ rfl),t1,by omega,nd,sb,P2.up (by omega)⟩
end ENG
namespace ENG
open L2 MI SHD
end ENG
namespace K09
open L2 MI AT HND EVX SHD
open PAP hiding gh aly apl a65 afo aof
open ENG
inductive Pth:List Rl->Nat->Nat->List Nat->Prop
 |nil (x:Nat):Pth [] x x [x]
 |cons {R:Rl} {Rs:List Rl} {x y e:Nat} {ps:List Nat} (h:R x y) (p:Pth Rs y e ps):Pth (R::Rs) x e (x::ps)
theorem Pth.len:∀{Rs:List Rl} {x e:Nat} {ps:List Nat},Pth Rs x e ps->ps.length=Rs.length+1
 |_,_,_,_,.nil _=>rfl
 |_,_,_,_,.cons _ p=>by rw [aH,p.len,aH]
theorem Pth.hd{Rs:List Rl}{x e:Nat}{ps:List Nat}(p:Pth Rs x e ps):∃qs,ps=x::qs:=by cases p<;>exact ⟨_,rfl⟩
theorem aan{xs:List D}{h:Hd}{i:Nat}{d:D}(e:h[i]? = some (.lst (xs++[d]))):gIx (.ref i) (.int (-1)) h=.ok d h:=by
 have n:ixN (xs++[d]).length (-1)=some xs.length:=by
  unfold ixN;rw [aS (by omega),av,aK,aE (by omega)]
  congr 1
  omega
 have sq:a2n (.ref i) h=some (xs++[d]):=by unfold a2n;simp only [e]
 unfold gIx;simp only [sq,atI,n,iE];rw [aB (aA _),dX];rfl
theorem a87(neg:Bool)(x:Nat)(l:List Nat)(h:Hd):gIn neg (bc x) (.tup (l.map bc)) h=.ok (.bl (if neg then !decide (x∈l) else decide (x∈l))) h:=by
 have ind:∀l:List Nat,inD (bc x) (l.map bc)=decide (x∈l):=λl=>by
  induction l with
  |nil=>simp [inD]
  |cons y l ih =>
   show (eqF (bc y) (bc x) || inD (bc x) (l.map bc))=_
   rw [ih];show (((y:Int) == (x:Int)) || decide (x∈l))=_
   by_cases h:y=x
   .subst h;simp
   .have:((y:Int) == (x:Int))=false:=da.mpr (by omega)
    rw [this,Bool.false_or];exact decide_eq_decide.mpr (by simp [ee h])
 have fl:(l.map bc).all a04=true:=by
  rw [bY]
  intro x hx
  obtain ⟨y,_,rfl⟩:=b6.mp hx;rfl
 show (if a04 (bc x)=true/\(l.map bc).all a04=true then R.ok (D.bl (if neg=true then !inD (bc x) (l.map bc) else inD (bc x) (l.map bc))) h else .no)=_
 rw [aE ⟨rfl,fl⟩,ind]
theorem ae2(neg:Bool)(x:Nat)(l:List Nat)(h:Hd):gIn neg (bc x) (lsD l) h=.ok (.bl (if neg then !decide (x∈l) else decide (x∈l))) h:=a87 neg x l h
def n8:SF:=qb (a9x dg) 8
section
variable{n a e:Nat}
abbrev lyr(n a:Nat)(Rs:List Rl)(j:Nat):D:=lsD (fl n (chn (Rs.take j)) a)
abbrev a3x(n a:Nat)(Rs:List Rl)(m:Nat):List D:=(List.range m).map (lyr n a Rs)
theorem a0b(n a:Nat)(Rs:List Rl)(m:Nat):a3x n a Rs (m+1)=a3x n a Rs m++[lyr n a Rs m]:=by
 show (List.range (m+1)).map _=_;rw [iK,cI];rfl
theorem aao(n a:Nat)(Rs:List Rl)(m:Nat):clos 0 (a3x n a Rs m):=gw λ_ _=>yc _
theorem axm(hn:n+1<=60)(ha:a<=n){Rs:List Rl}(bs:∀R∈Rs,Bd n R)(rl:Rs.length<=100):∃t4,forL (λ_=>True) (kN 4) (a5k dg) (Rs.map λR=>rwD (rw_ n R)) [some (.rol (Rs.map λR=>rwD (rw_ n R))),some (bc a),some (bc e),some (.ref 0),none,none,none,none] [.lst (a3x n a Rs 1)]=.nx [some (.rol (Rs.map λR=>rwD (rw_ n R))),some (bc a),some (bc e),some (.ref 0),t4,none,none,none] [.lst (a3x n a Rs (Rs.length+1))]:=by
 obtain ⟨τ',h',ew,t4,rfl,rfl⟩:=vy (g:=kN 4) (b:=a5k dg) (λR:Rl=>rwD (rw_ n R)) (λpre τ h=>∃t4:Option D,τ=[some (.rol (Rs.map λR=>rwD (rw_ n R))),some (bc a),some (bc e),some (.ref 0),t4,none,none,none]/\h=[.lst (a3x n a Rs (pre.length+1))]) Rs [some (.rol (Rs.map λR=>rwD (rw_ n R))),some (bc a),some (bc e),some (.ref 0),none,none,none,none] [.lst (a3x n a Rs 1)]
  (by
   rintro pre R post τ h al ⟨t4,rfl,rfl⟩
   have pl:pre.length<Rs.length:=by rw [al];simp
   have h1:Rs.take (pre.length+1)=pre++[R]:=by rw [al,List.append_cons];exact iN (by simp)
   have h2:Rs.take pre.length=pre:=by rw [al];exact iN rfl
   have tk1:Rs.take (pre.length+1)=Rs.take pre.length++[R]:=by rw [h1,h2]
   have st:=a2w (R:=R) hn (a7y (Rs:=Rs.take pre.length) λT hT=>bs T (eZ hT)) ha;rw [<-a4q,<-tk1] at st;rw [a0b];refine ⟨_,_,rfl,_,_,akl (bw rfl) rfl (arg1 (ul (bw rfl) (ig (bw rfl) (afm (gk _ _ _) (a7x _)) (aan (i:=0) rfl)) (st _))) (aph (i:=0) rfl (apk (by simp;omega))),some (rwD (rw_ n R)),rfl,?_⟩
   rw [av,aK,<-a0b,<-a0b]
   rfl) ⟨none,rfl,rfl⟩
 exact ⟨t4,ew⟩
theorem back(hn:n+1<=60)(ha:a<=n){Rs:List Rl}(bs:∀R∈Rs,Bd n R)(rl:Rs.length<=100)(he:chn Rs a e){t4:Option D}{L:Hd}(cL:∀u∈L,ux 0 u)(hL:L.length=1) :
  ∃ps t4' t6 t7,Pth Rs a e ps/\forL (λ_=>True) (aba 2 (xj (kN 4) (xj (kN 6) ack))) (a2t dg) ((List.range Rs.length).map λi=>.tup [rwD (rw_ n (Rs.getD (Rs.length-1-i) (λ_ _=>False))),lyr n a Rs (Rs.length-1-i)]) [some (.rol (Rs.map λR=>rwD (rw_ n R))),some (bc a),some (bc e),some (.ref 0),t4,some (.ref 1),none,none] (L++[.lst [bc e]])=.nx [some (.rol (Rs.map λR=>rwD (rw_ n R))),some (bc a),some (bc e),some (.ref 0),t4',some (.ref 1),t6,t7] (L++[.lst (ps.reverse.map bc)]):=by
 have en:e<=n:=(a7y bs a e he ha).2;have ix1:∀o:O,(L++[o])[1]? = some o:=λo=>by rw [aB (by omega),hL];rfl
 have st1:∀o o':O,(L++[o]).set 1 o'=L++[o']:=λo o'=>by rw [List.set_append_right _ _ (by omega),hL];rfl
 obtain ⟨τ',h',ew,b,ps,t4',t6,t7,rfl,rfl,pp,cb⟩:=vy (g:=aba 2 (xj (kN 4) (xj (kN 6) ack))) (b:=a2t dg) (λi:Nat=>D.tup [rwD (rw_ n (Rs.getD (Rs.length-1-i) (λ_ _=>False))),lyr n a Rs (Rs.length-1-i)])
  (λpre τ h=>∃(b:Nat) (ps:List Nat) (t4 t6 t7:Option D),τ=[some (.rol (Rs.map λR=>rwD (rw_ n R))),some (bc a),some (bc e),some (.ref 0),t4,some (.ref 1),t6,t7]/\h=L++[.lst (ps.reverse.map bc)]/\Pth (Rs.drop (Rs.length-pre.length)) b e ps/\chn (Rs.take (Rs.length-pre.length)) a b) (List.range Rs.length) [some (.rol (Rs.map λR=>rwD (rw_ n R))),some (bc a),some (bc e),some (.ref 0),t4,some (.ref 1),none,none] (L++[.lst [bc e]])
  (by
   rintro pre i post τ h al ⟨b,ps,t4,t6,t7,rfl,rfl,pp,cb⟩
   have hi':i=pre.length/\pre.length<Rs.length:=by
    have h1:(List.range Rs.length)[pre.length]? = some i:=by rw [al,aB (aA _),dX];rfl
    obtain ⟨h2,h3⟩:=am.mp h1;rw [aF] at h2;rw [fT] at h3;omega
   obtain ⟨rfl,hp⟩:=hi';obtain ⟨m,hm⟩:∃m,Rs.length-pre.length=m+1:=⟨Rs.length-pre.length-1,by omega⟩
   have hm':Rs.length-1-pre.length=m:=by omega
   have ml:m<Rs.length:=by omega
   have tk1:Rs.take (m+1)=Rs.take m++[Rs[m]]:=List.take_succ_eq_append_getElem ml;have dr1':Rs.drop m=Rs[m]::Rs.drop (m+1):=bT ml;have gd:Rs.getD m (λ_ _=>False)=Rs[m]:=by rw [c9,ag ml];rfl
   rw [hm] at pp cb;rw [hm',gd];have bt:Bd n (chn (Rs.take m)):=a7y λT hT=>bs T (eZ hT);rw [tk1,a4q] at cb;obtain ⟨c0,hc1,hc2⟩:=cb;obtain ⟨qs,rfl⟩:=pp.hd;have pl:=pp.len;have lq:(b::qs).length<=101:=by rw [pl,bN];omega
   have lf:=a2i (n:=n) (a:=a) (R:=chn (Rs.take m));have gl:gIx (.ref 1) (.int (-1)) (L++[.lst ((b::qs).reverse.map bc)])=.ok (bc b) (L++[.lst ((b::qs).reverse.map bc)]):=aan (xs:=qs.reverse.map bc) (by rw [ix1,eB,cI];rfl)
   have cl:∀u∈L++[O.lst ((b::qs).reverse.map bc)],ux 0 u:=λu hu=>by
    rcases aZ.mp hu with hu|hu
    .exact cL u hu
    .rw [aD.mp hu];exact a1t _
   have cz:∀t7:Option D,sZ (a8p (sIt (sV 6)) MI.t1 (a2s dg) (a8w dg) [4,5]) [some (.rol (Rs.map λR=>rwD (rw_ n R))),some (bc a),some (bc e),some (.ref 0),some (rwD (rw_ n Rs[m])),some (.ref 1),some (lyr n a Rs m),t7] (L++[.lst ((b::qs).reverse.map bc)])=.ok (lsD ((fl n (chn (Rs.take m)) a).filter λx=>decide (b∈fl n Rs[m] x))) (L++[.lst ((b::qs).reverse.map bc)]):=λt7=>by
    have ff:∀ys:List Nat,ys.filterMap (λx=>if b∈fl n Rs[m] x then some (bc x) else none)=(ys.filter λx=>decide (b∈fl n Rs[m] x)).map bc:=λys=>by
     induction ys with
     |nil=>rfl
     |cons y ys ih=>by_cases z:b∈fl n Rs[m] y<;>simp [z,ih]
    refine EVT.akv ?_ rfl (a1t _) cl;rw [<-ff];refine akj bc _ (fl n (chn (Rs.take m)) a) (a7w (bw rfl) rfl) (du (by omega)) λx hx=>?_
    rw [aso];have c:a2s dg [some (bc x),some (rwD (rw_ n Rs[m])),some (.ref 1)] (L++[.lst ((b::qs).reverse.map bc)])=.ok (decide (b∈fl n Rs[m] x)) (L++[.lst ((b::qs).reverse.map bc)]):=tof (ig (ig (bw rfl) (afm (gk _ _ _) (a7x _)) gl) (ig (bw rfl) (bw rfl) (al4 _ (jx.mp hx).1)) (a87 false _ _ _));show (a2s dg [some (bc x),some (rwD (rw_ n Rs[m])),some (.ref 1)] (L++[.lst ((b::qs).reverse.map bc)])).bind _=_;rw [c,cj]
    by_cases z:b∈fl n Rs[m] x
    .simp only [z,fD,db];show (sV 0 [some (bc x),some (rwD (rw_ n Rs[m])),some (.ref 1)] _).bind _=_;rw [bw rfl,cj]
    .simp only [z,eQ,dC,bi]
   have c0n:c0<=n:=(bt a c0 hc1 ha).2;have hb:b<=n:=(bs _ (bZ ml) c0 b hc2 c0n).2;have ne:c0∈(fl n (chn (Rs.take m)) a).filter λx=>decide (b∈fl n Rs[m] x):=fJ.mpr ⟨jx.mpr ⟨c0n,hc1⟩,by simpa using jx.mpr ⟨hb,hc2⟩⟩
   obtain ⟨b0,tl,ef⟩:∃b0 tl,((fl n (chn (Rs.take m)) a).filter λx=>decide (b∈fl n Rs[m] x))=b0::tl:=by
    cases hh:(fl n (chn (Rs.take m)) a).filter λx=>decide (b∈fl n Rs[m] x) with
    |nil=>rw [hh] at ne;cases ne
    |cons b0 tl=>exact ⟨b0,tl,rfl⟩
   have hb0:b0∈(fl n (chn (Rs.take m)) a).filter λx=>decide (b∈fl n Rs[m] x):=by rw [ef];simp
   obtain ⟨hb1,hb2⟩:=fJ.mp hb0;rw [ef] at cz;have hb2:b∈fl n Rs[m] b0:=by simpa using hb2
   refine ⟨_,_,rfl,_,_,ap (m7 (cz t7)) (akl (bw rfl) (by unfold isL;dsimp only;rw [ix1]) (arg1 (ig (bw rfl) (gk _ _ _) (afn (j:=0) rfl))) (aph (ix1 _) (apk (by rw [ax,gT];omega)))),b0,b0::b::qs,some (rwD (rw_ n Rs[m])),some (lyr n a Rs m),some (lsD (b0::tl)),rfl,?_,?_,?_⟩
   .rw [st1,eB (a:=b0),cI];rfl
   .rw [av,aK,show Rs.length-(pre.length+1)=m by omega,dr1']
    exact .cons (jx.mp hb2).2 pp
   .rw [av,aK,show Rs.length-(pre.length+1)=m by omega]
    exact (jx.mp hb1).2) ⟨e,[e],t4,none,none,rfl,rfl,by rw [bH,gz,List.drop_length];exact .nil e,by rw [bH,gz,fA];exact he⟩
 rw [aF,dX,fh] at pp;rw [aF,dX] at cb;have:a=b:=cb;subst this;exact ⟨ps,t4',t6,t7,pp,ew⟩
end
theorem ae3{f g:SE}{l:sO}{τ:Sd}{h h1 h2 h3 h4:Hd}{d k r:D}{o:Option Int}(e1:f τ h=.ok d h1)(e2:l τ h1=.ok o h2)(e3:g τ h2=.ok k h3)(e4:a4l d o k h3=.ok r h4):a0y f l g τ h=.ok r h4:=by
 unfold a0y;rw [e1,cj,e2,cj,e3,cj,e4]
section
variable{n a e:Nat}
theorem aol{Rs:List Rl}:(((Rs.map λR=>rwD (rw_ n R)).reverse.zip (a3x n a Rs Rs.length).reverse).map λp=>D.tup [p.1,p.2])=(List.range Rs.length).map λi=>.tup [rwD (rw_ n (Rs.getD (Rs.length-1-i) (λ_ _=>False))),lyr n a Rs (Rs.length-1-i)]:=by
 refine eD λi=>?_
 by_cases hi:i<Rs.length
 .have h1:(Rs.map λR=>rwD (rw_ n R)).reverse[i]? = some (rwD (rw_ n (Rs.getD (Rs.length-1-i) (λ_ _=>False)))):=by
   rw [gD (by rw [ax];exact hi),ax,aN,c9,ag (by omega)]
   rfl
  have h2:(a3x n a Rs Rs.length).reverse[i]? = some (lyr n a Rs (Rs.length-1-i)):=by
   rw [gD (by rw [ax,aF];exact hi),ax,aF,aN,dI (by omega)]
   rfl
  have h3:=(dY (z:=(rwD (rw_ n (Rs.getD (Rs.length-1-i) (λ_ _=>False))),lyr n a Rs (Rs.length-1-i)))).mpr ⟨h1,h2⟩;rw [aN,h3,aN,dI hi];rfl
 .rw [ba (by simp;omega),ba (by simp;omega)]
theorem ag0{Rs:List Rl}(hn:n+1<=60)(ha:a<=n)(bs:∀R∈Rs,Bd n R)(rl:Rs.length<=100):∃t4,n8 [.rol (Rs.map λR=>rwD (rw_ n R)),bc a,bc e] []=toR (jg (sIf (sT (s2 (gIn true) (sV 2) (s2 gIx (sV 3) (s1 a5t (sC (.int 1)))))) (o9 (sC .non)) sNx) (jg (n6 5 (sA MI.uz (aj (sV 2) bz))) (jg (a8o (ad1 (sZ (a0y (sV 0) oN (s1 a5t (sC (.int 1))))) (sZ (a0y (sV 3) (oS (s1 a5t (sC (.int 2)))) (s1 a5t (sC (.int 1)))))) (aba 2 (xj (kN 4) (xj (kN 6) ack))) (a2t dg)) (o9 (a0y (sV 5) oN (s1 a5t (sC (.int 1))))))) [some (.rol (Rs.map λR=>rwD (rw_ n R))),some (bc a),some (bc e),some (.ref 0),t4,none,none,none] [.lst (a3x n a Rs (Rs.length+1))]):=by
 obtain ⟨t4,e4⟩:=axm (e:=e) hn ha bs rl;refine ⟨t4,?_⟩;unfold n8;rw [jf];show toR (a9x dg [some (.rol (Rs.map λR=>rwD (rw_ n R))),some (bc a),some (bc e),none,none,none,none,none] [])=_;unfold a9x;have z1:sZ (sA MI.uz (aj (sV 1) bz)) [some (.rol (Rs.map λR=>rwD (rw_ n R))),some (bc a),some (bc e),none,none,none,none,none] []=.ok (lyr n a Rs 0) []:=by
  have:=EVT.ut (ka:=aj (sV 1) bz) (τ:=[some (.rol (Rs.map λR=>rwD (rw_ n R))),some (bc a),some (bc e),none,none,none,none,none]) (h:=[]) (arg1 (bw rfl)) rfl (bh (dw _) gf) (by simp) (by simp)
  rw [show lyr n a Rs 0=lsD [a] from ah lsD (aal ha)]
  exact this
 refine ap (ah toR (m7 (PAP.aof (arg1 z1) (show MI.uz [lyr n a Rs 0] []=.ok (.ref 0) [.lst (a3x n a Rs 1)] from aE (du (by simp)))))) ?_
 refine ap (ah toR (a7v (a7w (bw rfl) rfl))) ?_;refine ap (ah (λz=>toR (MI.thn z _)) e4) ?_;rfl
theorem aom{Rs:List Rl}(hn:n+1<=60)(ha:a<=n)(bs:∀R∈Rs,Bd n R)(rl:Rs.length<=100)(h:¬ chn Rs a e):Pu n8 3 [.rol (Rs.map λR=>rwD (rw_ n R)),bc a,bc e] .non:=by
 obtain ⟨t4,go⟩:=ag0 (e:=e) hn ha bs rl;refine Pu.of rfl (a6i (qm (gw λ_ _=>a2m _)) (dw _) (dw _)) (r:=.ok .non [.lst (a3x n a Rs (Rs.length+1))]) (go.trans ?_) (a0c a05 (by simp)) a05
 refine ah toR (nq (ap (ifT (h1:=[.lst (a3x n a Rs (Rs.length+1))]) (tof (ig (bw rfl) (ig (bw rfl) (afm (gk _ _ _) (a7x _)) (aan (i:=0) (by rw [<-a0b];rfl))) ((ae2 true _ _ _).trans ?_)))) (jd (gk _ _ _))))
 rw [aE rfl,aY (λz=>h (by have:=(jx.mp z).2;rwa [fA] at this))]
 rfl
theorem ale{Rs:List Rl}(hn:n+1<=60)(ha:a<=n)(bs:∀R∈Rs,Bd n R)(rl:Rs.length<=100)(h:chn Rs a e):∃ps,Pth Rs a e ps/\Pu n8 3 [.rol (Rs.map λR=>rwD (rw_ n R)),bc a,bc e] (lsD ps):=by
 obtain ⟨t4,go⟩:=ag0 (e:=e) hn ha bs rl;have cl0:∀u∈[O.lst (a3x n a Rs (Rs.length+1))],ux 0 u:=EVT.a3u (aao _ _ _ _);obtain ⟨ps,t4',t6,t7,pp,eb⟩:=back (t4:=t4) hn ha bs rl h cl0 rfl;have en:e<=n:=(a7y bs a e h ha).2;refine ⟨ps,pp,puL rfl (a6i (qm (gw λ_ _=>a2m _)) (dw _) (dw _)) (i:=2) (h1:=[.lst (a3x n a Rs (Rs.length+1)),.lst (ps.reverse.map bc),.lst (ps.map bc)]) (go.trans ?_) rfl⟩;refine ap (ah toR (ifN (h1:=[.lst (a3x n a Rs (Rs.length+1))]) (tof (ig (bw rfl) (ig (bw rfl) (afm (gk _ _ _) (a7x _)) (aan (i:=0) (by rw [<-a0b];rfl))) ((ae2 true _ _ _).trans (by rw [aE rfl,c8 (jx.mpr ⟨en,by rw [fA];exact h⟩)];rfl)))))) ?_
 refine ap (ah toR (m7 (PAP.aof (arg1 (bw rfl)) (show MI.uz [bc e] [.lst (a3x n a Rs (Rs.length+1))]=.ok (.ref 1) [.lst (a3x n a Rs (Rs.length+1)),.lst [bc e]] from aE (du (by simp)))))) ?_
 have cl1:∀u∈[O.lst (a3x n a Rs (Rs.length+1)),.lst [bc e]],ux 0 u:=a5n (aao _ _ _ _) (a1t [e]);have zz:ad1 (sZ (a0y (sV 0) oN (s1 a5t (sC (.int 1))))) (sZ (a0y (sV 3) (oS (s1 a5t (sC (.int 2)))) (s1 a5t (sC (.int 1))))) [some (.rol (Rs.map λR=>rwD (rw_ n R))),some (bc a),some (bc e),some (.ref 0),t4,some (.ref 1),none,none] [.lst (a3x n a Rs (Rs.length+1)),.lst [bc e]]=.ok ⟨(List.range Rs.length).map λi=>.tup [rwD (rw_ n (Rs.getD (Rs.length-1-i) (λ_ _=>False))),lyr n a Rs (Rs.length-1-i)],λ_=>True⟩ [.lst (a3x n a Rs (Rs.length+1)),.lst [bc e]]:=by
  have b1:sZ (a0y (sV 0) oN (s1 a5t (sC (.int 1)))) [some (.rol (Rs.map λR=>rwD (rw_ n R))),some (bc a),some (bc e),some (.ref 0),t4,some (.ref 1),none,none] [.lst (a3x n a Rs (Rs.length+1)),.lst [bc e]]=.ok (.rol (Rs.map λR=>rwD (rw_ n R)).reverse) [.lst (a3x n a Rs (Rs.length+1)),.lst [bc e]]:=EVT.akv (ae3 (bw rfl) EVT.aku (afm (gk _ _ _) (a7x _)) aw9) rfl (lu.mpr λx hx=>by obtain ⟨R,_,rfl⟩:=b6.mp (List.mem_reverse.mp hx);exact a2m _) cl1
  have b2:sZ (a0y (sV 3) (oS (s1 a5t (sC (.int 2)))) (s1 a5t (sC (.int 1)))) [some (.rol (Rs.map λR=>rwD (rw_ n R))),some (bc a),some (bc e),some (.ref 0),t4,some (.ref 1),none,none] [.lst (a3x n a Rs (Rs.length+1)),.lst [bc e]]=.ok (.rol (a3x n a Rs Rs.length).reverse) [.lst (a3x n a Rs (Rs.length+1)),.lst [bc e]]:=by
   have:=EVT.akv (ae3 (f:=sV 3) (l:=oS (s1 a5t (sC (.int 2)))) (g:=s1 a5t (sC (.int 1))) (τ:=[some (.rol (Rs.map λR=>rwD (rw_ n R))),some (bc a),some (bc e),some (.ref 0),t4,some (.ref 1),none,none]) (h:=[.lst (a3x n a Rs (Rs.length+1)),.lst [bc e]]) (bw rfl) (ahn (afm (gk _ _ _) (a7x _))) (afm (gk _ _ _) (a7x _)) (ao0 (i:=0) (xs:=a3x n a Rs (Rs.length+1)) rfl)) rfl (lu.mpr λx hx=>lu.mp (aao n a Rs (Rs.length+1)) x (List.dropLast_subset _ (List.mem_reverse.mp hx))) cl1
   rw [a0b,List.dropLast_concat,<-a0b] at this;exact this
  unfold ad1;rw [b1,cj,b2,cj,<-aol];show MI.R.ok (⟨((Rs.map λR=>rwD (rw_ n R)).reverse.zip (a3x n a Rs Rs.length).reverse).map λp=>.tup [p.1,p.2],λ_=>True/\True⟩:Itm) _=_
  congr 2
  funext _
  simp
 refine ap (ah toR (a7v zz)) ?_;refine ap (ah (λz=>toR (MI.thn z _)) eb) ?_;rw [a5u];have b5:=asi (h:=[.lst (a3x n a Rs (Rs.length+1)),.lst (ps.reverse.map bc)]) (i:=1) (xs:=ps.reverse.map bc) rfl;rw [<-List.map_reverse,List.reverse_reverse] at b5;exact ah toR (jd (ae3 (bw rfl) EVT.aku (afm (gk _ _ _) (a7x _)) b5))
end
def PW:Nat->Pa->Prop
 |0,_=>False
 |n+1,p=>match p with
  |.one _=>True
  |.eit _ p=>PW n p
  |.lst _ ps=>ps.length<=1000/\∀p∈ps,PW n p
theorem PW.ok{tg:List Nat}:∀{n:Nat} {p:Pa},POk tg n p->PW n p
 |0,_,h=>h.elim
 |n+1,.one _,_=>trivial
 |n+1,.eit _ _,h=>PW.ok (n:=n) h.2
 |n+1,.lst _ ps,h=>⟨by have:=h.2.1;show ps.length<=1000;omega,λp hp=>PW.ok (n:=n) (h.2.2 p hp)⟩
theorem axn:∀{ps:List Pa} {p:Pa},p∈ps->(sw p).length<=(sws ps).length
 |q::ps,p,h=>by
  rw [sws,av]
  rcases aC.mp h with rfl|h
  .omega
  .have:=axn h;omega
def j9:Nat->SF
 |0=>λ_ _=>.no
 |n+1=>qb (a4m (j9 n)) 1
theorem ate{n:Nat}{s:D}:j9 (n+1) [s] []=toR (a4m (j9 n) [some s] []):=by
 rw [j9,jf];rfl
theorem a2x:∀(d n:Nat),d<=n->∀p,PW d p->(sw p).length<=1000000->Pu (j9 n) 1 [pd p] (.str (S (sw p)))
 |0,_,_,_,k,_=>k.elim
 |d+1,0,h,_,_,_=>absurd h (by omega)
 |d+1,n+1,h,p,k,z=>by
  refine pu1 rfl (ahf (a1b p)) (j5 _) (ate.trans ?_);unfold a4m
  cases p with
  |one c =>
   rw [pd,sw];exact ah toR (nq (ap (ifT (by walk_at "x")) (jd (by walk_at "x"))))
  |eit j p =>
   have e:=a2x d n (by omega) p k (by rw [sw] at z;exact z)
   rw [pd,sw];exact ap (ah toR (ifN (by walk_at "x"))) (ah toR (nq (ap (ifT (by walk_at "x")) (jd (by walk_at "x")))))
  |lst x ps =>
   rw [sw] at z;have e:∀p∈ps,Pu (j9 n) 1 [pd p] (.str (S (sw p))):=λp hp=>a2x d n (by omega) p (k.2 p hp) (aW (axn hp) z)
   have kl:ps.length<=1000:=k.1;rw [a5o] at z;rw [pd,a2l,sw,a5o];obtain ⟨h1,h2⟩:=apq x;refine ap (ah toR (ifN (tof (ig (ig (bw rfl) (gk _ _ _) ix0) (gk _ _ _) (apo h1))))) (ap (ah toR (ifN (tof (ig (ig (bw rfl) (gk _ _ _) ix0) (gk _ _ _) (apo h2))))) (ah toR (jd ?_)));refine K76.axd (z:=S []) (gk _ _ _) (arg1 (zx (m8 pd (λp=>.str (S (sw p))) ps (a7w (ig (bw rfl) (gk _ _ _) ix1) rfl) (du (by omega)) λp hp=>?_) (gw λ_ _=>j5 _) (by simp))) ?_
   .rw [sy];unfold a5z;exact tu (bw rfl) (e p hp _)
   .have:=K76.acg (ls:=ps.map sw) (h:=[]) (by omega)
    rw [bB] at this;exact this
def str(w:List Nat)(a e:Nat):List Nat:=(w.drop a).take (e-a)
theorem alf{w:List Nat}{a b e:Nat}(h1:a<=b)(h2:b<=e):str w a b++str w b e=str w a e:=by
 unfold str;obtain ⟨k,rfl⟩:∃k,b=a+k:=⟨b-a,by omega⟩
 rw [show a+k-a=k by omega,<-List.drop_drop,show e-a=k+(e-(a+k)) by omega,<-List.take_append_drop k ((w.drop a).take (k+(e-(a+k)))),List.take_take,eM (by omega),List.drop_take]
 congr 2
 omega
mutual
def dq:Nat->SF
 |0=>λ_ _=>.no
 |n+1=>qb (a2r (dq n) (jj n) (c7 n)) 12
def jj:Nat->SF
 |0=>λ_ _=>.no
 |n+1=>qb (yt (c7 n)) 9
def c7:Nat->SF
 |0=>λ_ _=>.no
 |n+1=>qb (vz n8 (dq n)) 8
end
structure Tk (w:List Nat) (d:Nat) (s:Sh) (a e:Nat) (p:Pa):Prop where
 wk:wk d s (pd p)=some (str w a e)
 sw:sw p=str w a e
 pw:PW d p
 gd:Gd (pd p)
structure Tks (w:List Nat) (d:Nat) (ss:List Sh) (a e:Nat) (ps:List Pa):Prop where
 wk:wks (SHD.wk d) ss (pds ps)=some (str w a e)
 sw:sws ps=str w a e
 len:ps.length=ss.length
 pw:∀p∈ps,PW d p
 gd:∀p∈ps,Gd (pd p)
theorem alg(w:List Nat)(a:Nat):str w a a=[]:=by unfold str;rw [dX];rfl
theorem Tks.nil(w:List Nat)(d a:Nat):Tks w d [] a a []:=⟨by rw [pds,alg];rfl,by rw [sws,alg],rfl,by simp,by simp⟩
theorem Tks.cons{w:List Nat}{d:Nat}{s:Sh}{ss:List Sh}{a b e:Nat}{p:Pa}{ps:List Pa}(h1:a<=b)(h2:b<=e)(t:Tk w d s a b p)(ts:Tks w d ss b e ps):Tks w d (s::ss) a e (p::ps):=by
 refine ⟨?_,?_,?_,?_,?_⟩
 .rw [pds];show (match SHD.wk d s (pd p),wks (SHD.wk d) ss (pds ps) with|some x,some y=>some (x++y)|_,_=>none)=_
  rw [t.wk,ts.wk,<-alf h1 h2]
 .rw [sws,t.sw,ts.sw,alf h1 h2]
 .rw [aH,aH,ts.len]
 .intro q hq
  rcases aC.mp hq with rfl|hq
  .exact t.pw
  .exact ts.pw q hq
 .intro q hq
  rcases aC.mp hq with rfl|hq
  .exact t.gd
  .exact ts.gd q hq
section
variable{w:List Nat}{tg:List Nat}
def Made(tg w:List Nat)(k d:Nat):Prop:=∀s,a3g tg d s->∀a e,a<=w.length->En w d s a e->∃p,Pu (dq k) 4 [sd s,tr w d s,.str (S w),.tup [bc a,bc e]] (pd p)/\Tk w d s a e p
theorem ag1{k d:Nat}(ih:Made tg w k d):∀{ss:List Sh} {a e:Nat} {ps:List Nat},(∀s∈ss,a3g tg d s)->a<=w.length->Pth (ss.map (En w d)) a e ps->∃qs:List Pa,Tks w d ss a e qs/\a<=e/\e<=w.length/\mapR (λ_=>True) (a2y (tN 3) (jh n8 (dq k)) [some (.str (S w))]) ((ah4 (ss.map sd) (ss.map (tr w d)) ((ps.zip ps.tail).map λp=>.tup [bc p.1,bc p.2])).map λp=>.tup [p.1,p.2.1,p.2.2]) []=.ok (pds qs) []
 |[],a,e,ps,_,ha,p=>by
  cases p
  exact ⟨[],Tks.nil w d a,aA _,ha,by rw [pds];exact aE True.intro⟩
 |s::ss,a,e,ps,ks,ha,p=>by
  rw [aT] at p
  cases p with
  |@cons _ _ _ y _ ps' h p =>
   obtain ⟨h1,h2⟩:=a3w w d s a y h ha;obtain ⟨qs,T,h3,h4,m⟩:=ag1 ih (λs hs=>ks s (ay _ hs)) h2 p;obtain ⟨q,eq,t⟩:=ih s (ks s aI) a y ha h;obtain ⟨zs,rfl⟩:=p.hd;refine ⟨q::qs,.cons h1 h3 t T,by omega,h4,?_⟩
   rw [pds];show mapR (λ_=>True) _ (.tup [sd s,tr w d s,.tup [bc a,bc y]]::_) []=_;rw [mapR,aE True.intro];have c:a2y (tN 3) (jh n8 (dq k)) [some (.str (S w))] (.tup [sd s,tr w d s,.tup [bc a,bc y]]) []=.ok (pd q) []:=by
    show jh n8 (dq k) [some (sd s),some (tr w d s),some (.tup [bc a,bc y]),some (.str (S w))] []=_;exact PAP.aof (PAP.gh (bw rfl) (PAP.gh (bw rfl) (PAP.gh (bw rfl) (PAP.gh (bw rfl) EVT.wz)))) (eq _)
   rw [c,cj];have m':mapR (λ_=>True) (a2y (tN 3) (jh n8 (dq k)) [some (.str (S w))]) ((ah4 (ss.map sd) (ss.map (tr w d)) (((y::zs).zip (y::zs).tail).map λp=>.tup [bc p.1,bc p.2])).map λp=>.tup [p.1,p.2.1,p.2.2]) []=.ok (pds qs) []:=m;show (mapR (λ_=>True) (a2y (tN 3) (jh n8 (dq k)) [some (.str (S w))]) ((ah4 (ss.map sd) (ss.map (tr w d)) (((y::zs).zip (y::zs).tail).map λp=>.tup [bc p.1,bc p.2])).map λp=>.tup [p.1,p.2.1,p.2.2]) []).bind _=_;rw [m',cj]
end
section
variable{w:List Nat}{tg:List Nat}
theorem alh{k d a e:Nat}{ss:List Sh}{parts:D}(ks:∀s∈ss,a3g tg d s)(sl:ss.length<=16){pl:D}(hc:Pu n8 3 [.rol ((ss.map (En w d)).map λR=>rwD (rw_ w.length R)),bc a,bc e] pl):c7 (k+1) [parts,.rol (ss.map (tr w d)),.str (S w),.tup [bc a,bc e]] []=toR (jg (sIf (sT (s2 gIs (sV 6) (sC .non))) (o9 (sC .non)) sNx) (jg (n6 7 (sZ (s2 aka (sV 6) (sZ (a2a (sV 6) (oS (sC (.int 1))) oN))))) (o9 (sA zj (aj (sZ (m5 (ah5 (sV 0) (sV 1) (sV 7)) (tN 3) (jh n8 (dq k)) [2])) bz)))) [some parts,some (.rol (ss.map (tr w d))),some (.str (S w)),some (.tup [bc a,bc e]),some (bc a),some (bc e),some pl,none] []):=by
 rw [c7,jf];show toR (vz n8 (dq k) [some parts,some (.rol (ss.map (tr w d))),some (.str (S w)),some (.tup [bc a,bc e]),none,none,none,none] [])=_;unfold vz;refine ap (ah toR (a3t (adm (bw rfl) rfl))) ?_;have cz:sZ (m5 (sIt (sV 1)) (tN 2) (wu n8 (dq k)) []) [some parts,some (.rol (ss.map (tr w d))),some (.str (S w)),some (.tup [bc a,bc e]),some (bc a),some (bc e),none,none] []=.ok (.rol ((ss.map (En w d)).map λR=>rwD (rw_ w.length R))) []:=by
  rw [bB];refine zx (m8 (tr w d) _ ss (a7w (bw rfl) rfl) (du (by omega)) λs hs=>?_) (gw λ_ _=>a2m _) (by simp)
  cases d with
  |zero=>exact (ks s hs).elim
  |succ d =>
   show wu n8 (dq k) [some (rwE w (d+1) s),some (.rol ((kids s).map (tr w d)))] []=_;exact bw rfl
 exact ah toR (m7 (ax3 cz (bw rfl) (bw rfl) (hc _)))
theorem ali{a e:Nat}{ss:List Sh}{d:Nat}{parts:D}(hp:parts=.tup (ss.map sd)\/parts=.rol (ss.map sd)):∀x∈[parts,.rol (ss.map (tr w d)),.str (S w),.tup [bc a,bc e]],MI.clo 0 x:=by
 refine a85 ?_ (qm (gw λs _=>a86 w d s)) (j5 _) (kh (bh (dw _) (bh (dw _) gf)))
 rcases hp with rfl|rfl
 .exact kh (aam _)
 .exact qm (aam _)
theorem atf{k d a e:Nat}{ss:List Sh}{parts:D}(hw:w.length+1<=60)(ks:∀s∈ss,a3g tg d s)(sl:ss.length<=16)(hp:parts=.tup (ss.map sd)\/parts=.rol (ss.map sd))(ha:a<=w.length)(h:¬ chn (ss.map (En w d)) a e):Pu (c7 (k+1)) 4 [parts,.rol (ss.map (tr w d)),.str (S w),.tup [bc a,bc e]] .non:=by
 have hc:=aom (e:=e) hw ha (Rs:=ss.map (En w d)) (λR hR=>by obtain ⟨s,_,rfl⟩:=b6.mp hR;exact a3w w d s) (by rw [ax];omega) h
 refine pu1 rfl (ali hp) a05 ((alh ks sl hc).trans ?_);exact ah toR (nq (ap (ifT (h1:=[]) (tof (ig (bw rfl) (gk _ _ _) rfl))) (jd (gk _ _ _))))
theorem ag2{k d a e:Nat}{ss:List Sh}{parts:D}(hw:w.length+1<=60)(ih:Made tg w k d)(ks:∀s∈ss,a3g tg d s)(sl:ss.length<=16)(hp:parts=.tup (ss.map sd)\/parts=.rol (ss.map sd))(ha:a<=w.length)(h:chn (ss.map (En w d)) a e):∃qs,Tks w d ss a e qs/\Pu (c7 (k+1)) 4 [parts,.rol (ss.map (tr w d)),.str (S w),.tup [bc a,bc e]] (.tup (pds qs)):=by
 obtain ⟨ps,pp,hc⟩:=ale (e:=e) hw ha (Rs:=ss.map (En w d)) (λR hR=>by obtain ⟨s,_,rfl⟩:=b6.mp hR;exact a3w w d s) (by rw [ax];omega) h
 obtain ⟨qs,T,_,_,m⟩:=ag1 ih ks ha pp;have pl:=pp.len;rw [ax] at pl;have cq:clos 0 (pds qs):=aai qs;refine ⟨qs,T,pu1 rfl (ali hp) (kh cq) ((alh ks sl hc).trans ?_)⟩;refine ap (ah toR (ifN (h1:=[]) (tof (ig (bw rfl) (gk _ _ _) rfl)))) ?_;have zt:sZ (a2a (sV 6) (oS (sC (.int 1))) oN) [some parts,some (.rol (ss.map (tr w d))),some (.str (S w)),some (.tup [bc a,bc e]),some (bc a),some (bc e),some (lsD ps),none] []=.ok (lsD ps.tail) []:=by
  refine zx (alx (bw rfl) (ahn (gk _ _ _)) EVT.aku ?_) (a1t _) (by simp)
  show (MI.R.ok (D.ref 0) [O.lst (a4v (ps.map bc) (some (1:Int)) none)])=_;rw [show a4v (ps.map bc) (some (1:Int)) none=(ps.map bc).drop 1 from a6w (ps.map bc) 1,<-List.map_drop,List.drop_one]
  rfl
 have pc:clos 0 ((ps.zip ps.tail).map λp=>D.tup [bc p.1,bc p.2]):=gw λ_ _=>kh (bh (dw _) (bh (dw _) gf));have zz:sZ (s2 aka (sV 6) (sZ (a2a (sV 6) (oS (sC (.int 1))) oN))) [some parts,some (.rol (ss.map (tr w d))),some (.str (S w)),some (.tup [bc a,bc e]),some (bc a),some (bc e),some (lsD ps),none] []=.ok (.rol ((ps.zip ps.tail).map λp=>.tup [bc p.1,bc p.2])) []:=by
  refine zx (ig (bw rfl) zt ?_) pc (by simp)
  show (if ((ps.map bc).zip (ps.tail.map bc)).length<=LINE then MI.R.ok (D.ref 0) [O.lst (((ps.map bc).zip (ps.tail.map bc)).map λp=>.tup [p.1,p.2])] else .no)=_
  rw [aE (du (by rw [gU,ax,ax];omega)),List.zip_map,bB]
  rfl
 refine ap (ah toR (m7 zz)) ?_;have src:srcOf parts []=some (ss.map sd,λ_=>True):=by rcases hp with rfl|rfl<;>rfl
 have z3:ah5 (sV 0) (sV 1) (sV 7) [some parts,some (.rol (ss.map (tr w d))),some (.str (S w)),some (.tup [bc a,bc e]),some (bc a),some (bc e),some (lsD ps),some (.rol ((ps.zip ps.tail).map λp=>.tup [bc p.1,bc p.2]))] []=.ok ⟨(ah4 (ss.map sd) (ss.map (tr w d)) ((ps.zip ps.tail).map λp=>.tup [bc p.1,bc p.2])).map λp=>.tup [p.1,p.2.1,p.2.2],λ_=>True⟩ []:=by
  unfold ah5;rw [bw rfl,cj,bw rfl,cj,bw rfl,cj];unfold asj;rw [src];show MI.R.ok (⟨(ah4 (ss.map sd) (ss.map (tr w d)) ((ps.zip ps.tail).map λp=>.tup [bc p.1,bc p.2])).map λp=>.tup [p.1,p.2.1,p.2.2],λ_=>True/\True/\True⟩:Itm) []=_
  congr 2
  funext _
  simp
 have cz:sZ (m5 (ah5 (sV 0) (sV 1) (sV 7)) (tN 3) (jh n8 (dq k)) [2]) [some parts,some (.rol (ss.map (tr w d))),some (.str (S w)),some (.tup [bc a,bc e]),some (bc a),some (bc e),some (lsD ps),some (.rol ((ps.zip ps.tail).map λp=>.tup [bc p.1,bc p.2]))] []=.ok (.rol (pds qs)) []:=by
  refine zx ?_ cq (by simp)
  unfold m5;rw [z3,cj];dsimp only;rw [aE (du (by rw [ax,afc,ax];omega))]
  show (mapR (λ_=>True) (a2y (tN 3) (jh n8 (dq k)) [some (.str (S w))]) _ []).bind _=_;rw [m];rfl
 exact ah toR (jd (tu cz a3v))
theorem acj{α:Type}(x:α):∀n:Nat,(List.replicate n [x]).flatten=List.replicate n x
 |0=>rfl
 |n+1=>by rw [cH,bb,acj x n];rfl
theorem ag3{n:Nat}{R:Rl}(r:Bd n R):∀(m a e:Nat),e-a<=m->a<=n->star R a e->∃k,k<=e-a/\pw R k a e
 |0,a,e,hm,ha,h=>by
  have:=ado r a e h ha
  have:e=a:=by omega
  subst this;exact ⟨0,bq _,rfl⟩
 |m+1,a,e,hm,ha,h=>by
  rcases (ace r ha).mp h with rfl|⟨b,hb,h1,h2⟩
  .exact ⟨0,bq _,rfl⟩
  .have hbn:=(r a b h1 ha).2;have hbe:=(ado r b e h2 hbn).1;obtain ⟨k,hk,hp⟩:=ag3 r m b e (by omega) hbn h2
   exact ⟨k+1,by omega,(a7z k).mp ⟨b,h1,hp⟩⟩
theorem aap(R:Rl):∀j,chn (List.replicate j R)=pw R j
 |0=>rfl
 |j+1=>by rw [List.replicate_succ',a4q,aap R j,pw]
theorem a6j{k d a e lo hi:Nat}{p:Sh}(hw:w.length+1<=60)(ih:Made tg w k d)(ks:a3g tg d p)(ha:a<=w.length)(h16:hi<=16)(ex:∃c,lo<=c/\c<=hi/\pw (En w d p) c a e):∃c qs,lo<=c/\c<=hi/\Tks w d (List.replicate c p) a e qs/\Pu (jj (k+2)) 5 [sd p,tr w d p,.str (S w),.tup [bc a,bc e],.tup [bc lo,bc hi]] (.tup (pds qs)):=by
 let ags:List D:=[sd p,tr w d p,.str (S w),.tup [bc a,bc e],.tup [bc lo,bc hi]]
 have lp:=a9l (g:=kN 7) (b:=qp (c7 (k+1))) (λi:Nat=>D.int ((lo+i:Nat):Int)) (λpre τ h=>(∃t7 t8:Option D,τ=[some (sd p),some (tr w d p),some (.str (S w)),some (.tup [bc a,bc e]),some (.tup [bc lo,bc hi]),some (bc lo),some (bc hi),t7,t8])/\h=[]/\∀i∈pre,¬ pw (En w d p) (lo+i) a e) (λr h=>h=[]/\∃c qs,lo<=c/\c<=hi/\Tks w d (List.replicate c p) a e qs/\r=.tup (pds qs)) (List.range (hi+1-lo)) [] [some (sd p),some (tr w d p),some (.str (S w)),some (.tup [bc a,bc e]),some (.tup [bc lo,bc hi]),some (bc lo),some (bc hi),none,none] []
  (by
   rintro pre i post τ h al ⟨⟨t7,t8,rfl⟩,rfl,no⟩
   rw [cr] at al;have hi':i<hi+1-lo:=bE.mp (by rw [al];simp)
   have c16:lo+i<=16:=by omega
   have zp:∀(x:D) (j:Nat) (t8:Option D),MI.clo 0 x->[some (sd p),some (tr w d p),some (.str (S w)),some (.tup [bc a,bc e]),some (.tup [bc lo,bc hi]),some (bc lo),some (bc hi),some (bc (lo+i)),t8][j]? = some (some x)->sZ (s2 a1h (sZ (sA MI.uz (aj (sV j) bz))) (sV 7)) [some (sd p),some (tr w d p),some (.str (S w)),some (.tup [bc a,bc e]),some (.tup [bc lo,bc hi]),some (bc lo),some (bc hi),some (bc (lo+i)),t8] []=.ok (.rol (List.replicate (lo+i) x)) []:=λx j t8 cx hj=>by
    refine ap (EVT.acf (xs:=[x]) (k:=((lo+i:Nat):Int)) (EVT.ut (arg1 (bw hj)) rfl (bh cx gf) (by simp) (by simp)) (bw rfl) rfl (bh cx gf) (by simp) (by rw [cv,aK];omega) (by omega)) ?_
    rw [cv,acj]
   have q1:=zp (sd p) 0 t8 (vo p) rfl;have q2:=zp (tr w d p) 1 t8 (a86 w d p) rfl;have kr:∀s∈List.replicate (lo+i) p,a3g tg d s:=λs hs=>by rw [List.eq_of_mem_replicate hs];exact ks
   have lr:(List.replicate (lo+i) p).length<=16:=by rw [cG];exact c16
   refine ⟨_,_,rfl,?_⟩;show (∃τ2 h2,qp (c7 (k+1)) [some (sd p),some (tr w d p),some (.str (S w)),some (.tup [bc a,bc e]),some (.tup [bc lo,bc hi]),some (bc lo),some (bc hi),some (bc (lo+i)),t8] []=.nx τ2 h2/\_)\/∃r h2,qp (c7 (k+1)) [some (sd p),some (tr w d p),some (.str (S w)),some (.tup [bc a,bc e]),some (.tup [bc lo,bc hi]),some (bc lo),some (bc hi),some (bc (lo+i)),t8] []=.rt r h2/\_;unfold qp
   by_cases q:pw (En w d p) (lo+i) a e
   .right
    obtain ⟨qs,T,f⟩:=ag2 (parts:=.rol ((List.replicate (lo+i) p).map sd)) hw ih kr lr (.inr rfl) ha (by rw [cX,aap];exact q)
    rw [cX,cX] at f;exact ⟨_,_,ap (m7 (PAP.aof (PAP.gh q1 (PAP.gh q2 (PAP.gh (bw rfl) (PAP.gh (bw rfl) EVT.wz)))) (f _))) (ap (ifT (h1:=[]) (tof (ig (bw rfl) (gk _ _ _) rfl))) (jd (bw rfl))),rfl,lo+i,qs,by omega,by omega,T,rfl⟩
   .left
    have f:=atf (k:=k) (e:=e) (parts:=.rol ((List.replicate (lo+i) p).map sd)) hw kr lr (.inr rfl) ha (by rw [cX,aap];exact q)
    rw [cX,cX] at f;refine ⟨_,_,ap (m7 (PAP.aof (PAP.gh q1 (PAP.gh q2 (PAP.gh (bw rfl) (PAP.gh (bw rfl) EVT.wz)))) (f _))) (ifF (h1:=[]) (tof (ig (bw rfl) (gk _ _ _) rfl))),⟨_,_,rfl⟩,rfl,λj hj=>?_⟩
    rcases aZ.mp hj with hj|hj
    .exact no j hj
    .rw [aD.mp hj];exact q) ⟨⟨_,_,rfl⟩,rfl,by simp⟩
 have cl:∀x∈ags,MI.clo 0 x:=λx hx=>by
  rcases aC.mp hx with rfl|hx
  .exact vo p
  .exact a85 (a86 w d p) (j5 _) (kh (bh (dw _) (bh (dw _) gf))) (kh (bh (dw _) (bh (dw _) gf))) x hx
 rcases lp with ⟨τ',h',ew,_,_,no⟩|⟨r,h',ew,rfl,c,qs,h1,h2,T,rfl⟩
 .obtain ⟨c,h1,h2,h3⟩:=ex;exact absurd (by rw [show lo+(c-lo)=c by omega];exact h3) (no (c-lo) (by rw [cr];exact bE.mpr (by omega)))
 .refine ⟨c,qs,h1,h2,T,pu1 rfl cl (kh (aai qs)) ?_⟩;rw [jj,jf];show toR (yt (c7 (k+1)) [some (sd p),some (tr w d p),some (.str (S w)),some (.tup [bc a,bc e]),some (.tup [bc lo,bc hi]),none,none,none,none] [])=_;unfold yt;refine ap (ah toR (a3t (adm (bw rfl) rfl))) ?_;have rg:sRg abb (aj (sV 5) (aj (s2 jo (sV 6) (sC (.int 1))) bz)) [some (sd p),some (tr w d p),some (.str (S w)),some (.tup [bc a,bc e]),some (.tup [bc lo,bc hi]),some (bc lo),some (bc hi),none,none] []=.ok ⟨(List.range (hi+1-lo)).map λi:Nat=>D.int ((lo+i:Nat):Int),λ_=>True⟩ []:=by
   unfold sRg;rw [PAP.gh (bw rfl) (PAP.gh (ig (bw rfl) (gk _ _ _) (ach (y:=1))) EVT.wz),cj,show ((hi:Int)+1)=((hi+1:Nat):Int) by omega]
   exact ax2 _ (du (by omega)) (du (by omega))
  refine ap (ah toR (a7v rg)) ?_;refine ap (ah (λz=>toR (MI.thn z _)) ew) ?_;rfl
end
theorem alj{h:Nat}{qs:List Pa}(l:qs.length<=16)(g:∀p∈qs,Gd (pd p)):Gd (pd (.lst h qs)):=by
 rw [pd];refine .tup _ (by simp) λx hx=>?_
 simp only [aC,bA,e9] at hx
 rcases hx with rfl|rfl
 .refine .str _ ?_
  rcases h with _|_|h
  .decide
  .decide
  .show ("times" : Str).cps.toList.length<=1000;decide
 .refine .tup _ (by rw [a82];exact l) λx hx=>?_
  rw [a2l] at hx;obtain ⟨p,hp,rfl⟩:=b6.mp hx;exact g p hp
section
variable{w:List Nat}{tg:List Nat}
theorem a1p{k d a e:Nat}{s:Sh}:dq (k+1) [sd s,tr w (d+1) s,.str (S w),.tup [bc a,bc e]] []=toR (jg (sIf (sT (s2 hEq (s2 gIx (sV 0) (sC (.int 0))) (sC (.str "one")))) (o9 (sA MI.ww (aj (sC (.str "one")) (aj (s2 gIx (sV 2) (sV 6)) bz)))) sNx) (jg (sIf (sT (s2 hEq (s2 gIx (sV 0) (sC (.int 0))) (sC (.str "either")))) (jg (n6 8 (sZ (m5 (sIt (sV 5)) (tN 2) (a01 (dq k) (jj k) (c7 k)) [6,7]))) (jg (n6 9 (sML a5j (sV 8) (aj (sC (.bl true)) bz))) (o9 (sA MI.ww (aj (sC (.str "either")) (aj (sV 9) (aj (sA (kj false 4 (dq k)) (aj (s2 gIx (s2 gIx (sV 0) (sC (.int 1))) (sV 9)) (aj (s2 gIx (sV 5) (sV 9)) (aj (sV 2) (aj (sV 3) bz))))) bz))))))) sNx) (jg (sIf (sT (s2 hEq (s2 gIx (sV 0) (sC (.int 0))) (sC (.str "row")))) (o9 (sA MI.ww (aj (sC (.str "row")) (aj (sA (kj false 4 (c7 k)) (aj (s2 gIx (sV 0) (sC (.int 1))) (aj (sV 5) (aj (sV 2) (aj (sV 3) bz))))) bz)))) sNx) (jg (aek (ahi (sT (s2 hEq (s2 gIx (sV 0) (sC (.int 0))) (sC (.str "many")))) (sA MI.ww (aj (sC (.int 0)) (aj (s2 MI.a8h (sV 7) (sV 6)) bz))) (sA MI.ww (aj (s2 gIx (sV 0) (sC (.int 2))) (aj (s2 gIx (sV 0) (sC (.int 3))) bz)))) (aba 2 (xj (kN 10) (xj (kN 11) ack)))) (o9 (sA MI.ww (aj (s2 gIx (sV 0) (sC (.int 0))) (aj (sA (kj false 5 (jj k)) (aj (s2 gIx (sV 0) (sC (.int 1))) (aj (s2 gIx (sV 5) (sC (.int 0))) (aj (sV 2) (aj (sV 3) (aj (sA MI.ww (aj (sV 10) (aj (sV 11) bz))) bz)))))) bz))))))) [some (sd s),some (tr w (d+1) s),some (.str (S w)),some (.tup [bc a,bc e]),some (rwE w (d+1) s),some (.rol ((kids s).map (tr w d))),some (bc a),some (bc e),none,none,none,none] []):=by
 rw [dq,jf];show toR (a2r (dq k) (jj k) (c7 k) [some (sd s),some (tr w (d+1) s),some (.str (S w)),some (.tup [bc a,bc e]),none,none,none,none,none,none,none,none] [])=_;unfold a2r;refine ap (ah toR (a3t (adm (bw rfl) rfl))) ?_;exact ah toR (a3t (adm (bw rfl) rfl))
theorem alk{k d:Nat}(hw:w.length<=16)(ih0:Made tg w k d)(ih1:Made tg w (k+1) d)(ih2:Made tg w (k+2) d):Made tg w (k+3) (d+1):=by
 intro s ks a e ha h
 obtain ⟨ae,en⟩:=a3w w (d+1) s a e h ha;have cl:∀x∈[sd s,tr w (d+1) s,.str (S w),.tup [bc a,bc e]],MI.clo 0 x:=a85 (vo s) (a86 w (d+1) s) (j5 _) (kh (bh (dw _) (bh (dw _) gf)));have sb:∀hh,MI.a8h (bc e) (bc a) hh=.ok (bc (e-a)) hh:=λhh=>by rw [ac8,show (e:Int)-(a:Int)=((e-a:Nat):Int) by omega]
 match s,ks,h,cl with
 |.one sg,ks,h,cl =>
  obtain ⟨c,h1,h2,h3⟩:=h;subst h3;have hal:=(am.mp h1).1;have es:str w a (a+1)=[c]:=by
   unfold str;rw [iB,bT hal,(am.mp h1).2];rfl
  refine ⟨.one c,pu1 rfl cl (a1b _) (a1p.trans ?_),⟨?_,by rw [sw,es],trivial,?_⟩⟩
  .rw [sd,pd];refine ah toR (nq (ap (ifT (h1:=[]) (by walk_at "x")) (jd ?_)))
   exact ul (gk _ _ _) (ig (bw rfl) (bw rfl) (asm (du (by omega)) h1)) a8x
  .rw [pd,es];show (if aho "one" (.str "one")=true then axe sg (.str (S [c])) else none)=_
   rw [aE (by decide)]
   show (match (S [c]).cps.toList with|[c]=>if c∈sg then some [c] else none|_=>none)=_
   rw [aa0];exact aE h2
  .rw [pd];refine .tup _ (by simp) λx hx=>?_
   simp only [aC,bA,e9] at hx
   rcases hx with rfl|rfl
   .exact .str _ (by decide)
   .exact .str _ (by rw [aa0];simp)
 |.eit ps,ks,h,cl =>
  obtain ⟨l1,l6,kp⟩:=ks;have l6:ps.length<=6:=l6
  let bs:List Bool:=ps.map λp=>decide (e∈fl w.length (En w d p) a)
  obtain ⟨p0,hp0,h0⟩:=h;obtain ⟨j,hj⟩:=afb (l:=bs) (b6.mpr ⟨p0,hp0,c8 (jx.mpr ⟨en,h0⟩)⟩);obtain ⟨j1,_⟩:=ak4 hj;rw [aN,aQ] at j1;obtain ⟨p,gj,hpj⟩:=j1;have hpj:En w d p a e:=(jx.mp (of_decide_eq_true hpj)).2;have jl:=(am.mp gj).1;obtain ⟨q,eq,t⟩:=ih2 p (kp p (bv gj)) a e ha hpj;refine ⟨.eit j q,pu1 rfl cl (a1b _) (a1p.trans ?_),⟨?_,by rw [sw,t.sw],t.pw,?_⟩⟩
  .rw [sd,qt,pd];refine ap (ah toR (ifN (h1:=[]) (by walk_at "x"))) ?_
   refine ah toR (nq (ap (ifT (h1:=[]) (by walk_at "x")) ?_))
   have cz:sZ (m5 (sIt (sV 5)) (tN 2) (a01 (dq (k+2)) (jj (k+2)) (c7 (k+2))) [6,7]) [some (.tup [.str "either",.tup (ps.map sd)]),some (tr w (d+1) (.eit ps)),some (.str (S w)),some (.tup [bc a,bc e]),some (rwE w (d+1) (.eit ps)),some (.rol ((kids (.eit ps)).map (tr w d))),some (bc a),some (bc e),none,none,none,none] []=.ok (.rol (bs.map D.bl)) []:=by
    rw [bB];refine zx (m8 (tr w d) _ ps (a7w (bw rfl) rfl) (du (by omega)) λp hp=>?_) (gw λ_ _=>a7c _) (by simp)
    cases d with
    |zero=>exact (kp p hp).elim
    |succ d =>
     show a01 (dq (k+2)) (jj (k+2)) (c7 (k+2)) [some (rwE w (d+1) p),some (.rol ((kids p).map (tr w d))),some (bc a),some (bc e)] []=_;exact ig (bw rfl) (ig (bw rfl) (bw rfl) (al4 _ ha)) (a87 false _ _ _)
   have g1:gIx (.tup (ps.map sd)) (bc j) []=.ok (sd p) []:=aoa (by rw [aN,gj];rfl)
   have g2:gIx (.rol ((kids (.eit ps)).map (tr w d))) (bc j) []=.ok (tr w d p) []:=afn (by rw [aN];show (ps[j]?).map _=_;rw [gj];rfl)
   refine ap (m7 cz) ?_;refine ap (m7 (azj (bw rfl) rfl (arg1 (gk _ _ _)) (azb hj))) ?_;exact jd (PAP.aof (PAP.gh (gk _ _ _) (PAP.gh (bw rfl) (PAP.gh (PAP.aof (PAP.gh (ig (ig (bw rfl) (gk _ _ _) ix1) (bw rfl) g1) (PAP.gh (ig (bw rfl) (bw rfl) g2) (PAP.gh (bw rfl) (PAP.gh (bw rfl) EVT.wz)))) (eq _)) EVT.wz))) ay5)
  .rw [pd];show (if aho "either" (.str "either")=true then axf (λi q=>(ps[i]?).bind λs=>SHD.wk d s q) ps.length (bc j) (pd q) else none)=_
   rw [aE (by decide)]
   show (if 0<=(j:Int)/\(j:Int)<(ps.length:Int) then (ps[(j:Int).toNat]?).bind λs=>SHD.wk d s (pd q) else none)=_
   rw [aE ⟨by omega,by omega⟩,cv,gj]
   exact t.wk
  .rw [pd];refine .tup _ (by simp) λx hx=>?_
   simp only [aC,bA,e9] at hx
   rcases hx with rfl|rfl|rfl
   .exact .str _ (by decide)
   .exact .int _
   .exact t.gd
 |.row ps,ks,h,cl =>
  obtain ⟨l6,kp⟩:=ks;have l6:ps.length<=6:=l6;obtain ⟨qs,T,f⟩:=ag2 (parts:=.tup (ps.map sd)) (by omega) ih1 kp (by omega) (.inl rfl) ha h
  refine ⟨.lst 0 qs,pu1 rfl cl (a1b _) (a1p.trans ?_),⟨?_,by rw [sw,T.sw],⟨by rw [T.len];omega,T.pw⟩,alj (by rw [T.len];omega) T.gd⟩⟩
  .rw [sd,qt,pd];refine ap (ah toR (ifN (h1:=[]) (by walk_at "x"))) ?_
   refine ap (ah toR (ifN (h1:=[]) (by walk_at "x"))) ?_
   refine ah toR (nq (ap (ifT (h1:=[]) (by walk_at "x")) (jd ?_)))
   exact ul (gk _ _ _) (PAP.aof (PAP.gh (ig (bw rfl) (gk _ _ _) ix1) (PAP.gh (bw rfl) (PAP.gh (bw rfl) (PAP.gh (bw rfl) EVT.wz)))) (f _)) a8x
  .rw [pd];show (if aho "row" (.str (hn 0))=true then wks (SHD.wk d) ps (pds qs) else none)=_
   rw [aE (by decide)]
   exact T.wk
 |.many p,ks,h,cl =>
  obtain ⟨c0,hc0,hp0⟩:=ag3 (a3w w d p) (e-a) a e (aA _) ha h;obtain ⟨c,qs,c1,c2,T,f⟩:=a6j (lo:=0) (hi:=e-a) (by omega) ih0 ks ha (by omega) ⟨c0,bq _,hc0,hp0⟩
  have ql:qs.length=c:=by rw [T.len,cG]
  refine ⟨.lst 1 qs,pu1 rfl cl (a1b _) (a1p.trans ?_),⟨?_,by rw [sw,T.sw],⟨by rw [ql];omega,T.pw⟩,alj (by rw [ql];omega) T.gd⟩⟩
  .rw [sd,pd];refine ap (ah toR (ifN (h1:=[]) (by walk_at "x"))) ?_
   refine ap (ah toR (ifN (h1:=[]) (by walk_at "x"))) ?_
   refine ap (ah toR (ifN (h1:=[]) (by walk_at "x"))) ?_
   refine ap (ah toR (a3t (adm (EVT.b0w (h1:=[]) (by walk_at "x") (ul (gk _ _ _) (ig (bw rfl) (bw rfl) (sb _)) a8x)) rfl))) ?_
   refine ah toR (jd ?_);exact ul (ig (bw rfl) (gk _ _ _) ix0) (PAP.aof (PAP.gh (ig (bw rfl) (gk _ _ _) ix1) (PAP.gh (ig (bw rfl) (gk _ _ _) (afn (j:=0) rfl)) (PAP.gh (bw rfl) (PAP.gh (bw rfl) (PAP.gh (ul (bw rfl) (bw rfl) a8x) EVT.wz))))) (f _)) a8x
  .rw [pd];show (if aho "many" (.str (hn 1))=true then wks (SHD.wk d) (List.replicate (pds qs).length p) (pds qs) else none)=_
   rw [aE (by decide),a82,ql]
   exact T.wk
 |.tim p lo hi,ks,h,cl =>
  obtain ⟨k1,k2,kp⟩:=ks;have k2:hi<=4:=k2;obtain ⟨c0,h1,h2,h3⟩:=h;obtain ⟨c,qs,c1,c2,T,f⟩:=a6j (lo:=lo) (hi:=hi) (by omega) ih0 kp ha (by omega) ⟨c0,h1,h2,h3⟩
  have ql:qs.length=c:=by rw [T.len,cG]
  refine ⟨.lst 2 qs,pu1 rfl cl (a1b _) (a1p.trans ?_),⟨?_,by rw [sw,T.sw],⟨by rw [ql];omega,T.pw⟩,alj (by rw [ql];omega) T.gd⟩⟩
  .rw [sd,pd];refine ap (ah toR (ifN (h1:=[]) (by walk_at "x"))) ?_
   refine ap (ah toR (ifN (h1:=[]) (by walk_at "x"))) ?_
   refine ap (ah toR (ifN (h1:=[]) (by walk_at "x"))) ?_
   refine ap (ah toR (a3t (adm (EVT.azp (h1:=[]) (by walk_at "x") (ul (ig (bw rfl) (gk _ _ _) ix2) (ig (bw rfl) (gk _ _ _) ix3) a8x)) rfl))) ?_
   refine ah toR (jd ?_);exact ul (ig (bw rfl) (gk _ _ _) ix0) (PAP.aof (PAP.gh (ig (bw rfl) (gk _ _ _) ix1) (PAP.gh (ig (bw rfl) (gk _ _ _) (afn (j:=0) rfl)) (PAP.gh (bw rfl) (PAP.gh (bw rfl) (PAP.gh (ul (bw rfl) (bw rfl) a8x) EVT.wz))))) (f _)) a8x
  .rw [pd];show (if aho "times" (.str (hn 2))=true then (if lo<=(pds qs).length/\(pds qs).length<=hi then wks (SHD.wk d) (List.replicate (pds qs).length p) (pds qs) else none) else none)=_
   rw [aE (by decide),a82,ql,aE ⟨c1,c2⟩]
   exact T.wk
theorem aaq(hw:w.length<=16):∀(d k:Nat),3*d<=k->Made tg w k d
 |0,_,_=>λ_ ks=>ks.elim
 |d+1,0,h=>absurd h (by omega)
 |d+1,1,h=>absurd h (by omega)
 |d+1,2,h=>absurd h (by omega)
 |d+1,k+3,h=>alk hw (aaq hw d k (by omega)) (aaq hw d (k+1) (by omega)) (aaq hw d (k+2) (by omega))
def a02:SF:=qb (a6e (ik 5) (dq 15)) 5
theorem alm{s:Sh}(hw:w.length<=16)(ks:a3g tg 5 s):(¬ En w 5 s 0 w.length->Pu a02 2 [sd s,.str (S w)] .non)/\(En w 5 s 0 w.length->∃p,Pu a02 2 [sd s,.str (S w)] (pd p)/\Tk w 5 s 0 w.length p):=by
 have cl:∀x∈[sd s,.str (S w)],MI.clo 0 x:=a1u (vo s) (j5 _);have go:a02 [sd s,.str (S w)] []=toR (jg (sIf (sT (s2 (gIn true) (sA qu (aj (sV 1) bz)) (s2 gIx (sV 3) (sC (.int 0))))) (o9 (sC .non)) sNx) (o9 (sA (kj false 4 (dq 15)) (aj (sV 0) (aj (sV 2) (aj (sV 1) (aj (sA MI.ww (aj (sC (.int 0)) (aj (sA qu (aj (sV 1) bz)) bz))) bz)))))) [some (sd s),some (.str (S w)),some (tr w 5 s),some (rwE w 5 s),some (.rol ((kids s).map (tr w 4)))] []):=by
  unfold a02;rw [jf];show toR (a6e (ik 5) (dq 15) [some (sd s),some (.str (S w)),none,none,none] [])=_;unfold a6e;refine ap (ah toR (m7 (ul (bw rfl) (bw rfl) (al7 (by omega) 5 5 (by decide) s ks _)))) ?_
  exact ah toR (a3t (adm (bw rfl) rfl))
 have lw:∀hh,qu [.str (S w)] hh=.ok (bc w.length) hh:=λhh=>a4o (du (by omega))
 have x0:gIx (rwE w 5 s) (.int 0) []=.ok (.tup ((fl w.length (En w 5 s) 0).map bc)) []:=al4 (a:=0) _ (bq _);refine ⟨λh=>pu1 rfl cl a05 (go.trans ?_),λh=>?_⟩
 .exact ah toR (nq (ap (ifT (h1:=[]) (tof (ig (tu (bw rfl) (lw _)) (ig (bw rfl) (gk _ _ _) x0) ((a87 true _ _ _).trans (by rw [aE rfl,aY (λz=>h (jx.mp z).2)];rfl))))) (jd (gk _ _ _))))
 .obtain ⟨p,ep,t⟩:=aaq (tg:=tg) hw 5 15 (by omega) s ks 0 w.length (bq _) h
  refine ⟨p,pu1 rfl cl (a1b p) (go.trans ?_),t⟩;refine ap (ah toR (ifN (h1:=[]) (tof (ig (tu (bw rfl) (lw _)) (ig (bw rfl) (gk _ _ _) x0) ((a87 true _ _ _).trans (by rw [aE rfl,c8 (jx.mpr ⟨aA _,h⟩)];rfl)))))) ?_
  exact ah toR (jd (PAP.aof (PAP.gh (bw rfl) (PAP.gh (bw rfl) (PAP.gh (bw rfl) (PAP.gh (ul (gk _ _ _) (tu (bw rfl) (lw _)) a8x) EVT.wz)))) (ep _)))
end
def jm:SF:=qb (a1o (j8 5) (j4 11) a02 (j9 5)) 5
section
variable{w tg:List Nat}{s:Sh}
theorem aln(w:List Nat):str w 0 w.length=w:=by unfold str;rw [gz,fh,fA]
theorem aar(hw:w.length<=16)(ks:a3g tg 5 s):Pu jm 2 [sd s,.str (S w)] (.bl true):=by
 have x0:∀h,gIx (alD w 5 s) (.int 0) h=.ok (rwL w.length (En w 5 s)) h:=λh=>afn (j:=0) rfl;have x1:∀h,gIx (rwL w.length (En w 5 s)) (.int 0) h=.ok (lsD (fl w.length (En w 5 s) 0)) h:=λh=>afz (a:=0) _ (bq _);have lw:∀hh,qu [.str (S w)] hh=.ok (bc w.length) hh:=λhh=>a4o (du (by omega))
 have c:∀(f:D) (t3 t4:Option D),sT (s2 (gIn true) (sA qu (aj (sV 1) bz)) (s2 gIx (s2 gIx (sA (kj false 2 (j8 5)) (aj (sV 0) (aj (sV 1) bz))) (sC (.int 0))) (sC (.int 0)))) [some (sd s),some (.str (S w)),some f,t3,t4] []=.ok (!decide (w.length∈fl w.length (En w 5 s) 0)) []:=λf t3 t4=>tof (ig (tu (bw rfl) (lw _)) (ig (ig (ul (bw rfl) (bw rfl) (apy (by omega) 5 5 (by decide) (by decide) s ks _)) (gk _ _ _) (x0 _)) (gk _ _ _) (x1 _)) (ae2 true _ _ _))
 refine pu1 rfl (a1u (vo s) (j5 _)) (a7c _) ?_;unfold jm;rw [jf];show toR (a1o (j8 5) (j4 11) a02 (j9 5) [some (sd s),some (.str (S w)),none,none,none] [])=_;unfold a1o;obtain ⟨no,yes⟩:=alm (tg:=tg) hw ks
 by_cases h:En w 5 s 0 w.length
 .obtain ⟨p,ep,t⟩:=yes h;have wd:=a84 (tg:=tg) 5 11 (by decide) (by decide) s (pd p) ks t.gd
  have wk1:=t.wk;rw [aln] at wk1;rw [wk1] at wd;have sw1:=t.sw;rw [aln] at sw1;have wo:=a2x 5 5 (by decide) p t.pw (by rw [sw1];omega)
  rw [sw1] at wo;refine ap (ah toR (m7 (ul (bw rfl) (bw rfl) (ep _)))) ?_;refine ap (ah toR (ifN ((c (pd p) none none).trans (by rw [c8 (jx.mpr ⟨aA _,h⟩)];rfl)))) ?_
  refine ap (ah toR (m7 (ul (bw rfl) (bw rfl) (wd _)))) ?_;refine ap (ah toR (ifN (h1:=[]) (orF (tof (ig (bw rfl) (gk _ _ _) rfl)) (tof (ig (bw rfl) (bw rfl) asv))))) ?_;refine ap (ah toR (m7 (tu (bw rfl) (wo _)))) ?_;have si:sr [.str (S w),.ty "str"] []=.ok (.bl true) []:=by simp [sr,alu,tyD,ahk]
  exact ah toR (jd (ahc (ul (bw rfl) (gk _ _ _) si) (ig (bw rfl) (bw rfl) ay6)))
 .refine ap (ah toR (m7 (ul (bw rfl) (bw rfl) (no h _)))) ?_;refine ah toR (nq (ap (ifT ((c .non none none).trans (by rw [aY (λz=>h (jx.mp z).2)];rfl))) (jd (ig (bw rfl) (gk _ _ _) rfl))))
end
abbrev B1:=a9y (di 5) PN.my jm (jb 5) (fu 5) PN.ji PN.iy PN.az jz (j9 5)
abbrev B0:=afe (di 5) PN.my jm (jb 5) (fu 5) PN.ji PN.iy PN.az jz (j9 5)
section
variable{tg:List Nat}
abbrev wD(x:List Nat):D:=.str (S x)
theorem turn(t1:1<=tg.length)(t6:tg.length<=6)(nd:tg.Nodup){sc:D}{t3 t4 t5 t6' t7 t8 t9 t10 t11 t12:Option D}{o:O}{N:Nat}{hs:Hd}(ch:∀u∈hs,ux 0 u)(P:PN.Pen o N)(hN:N<=500000000) :
  ∃u4 u5 u6 u7 u8 u9 u10 o' hs',B1 [some sc,some (.ref 0),some (.str (S tg)),t3,t4,t5,t6',t7,t8,t9,t10,t11,t12] (o::hs)=.nx [some sc,some (.ref 0),some (.str (S tg)),t3,u4,u5,u6,u7,u8,u9,u10,t11,t12] (o'::hs')/\(∀u∈hs',ux 0 u)/\PN.Pen o' (N+7000000):=by
 have b5:bnd 5=3361400:=by decide
 obtain ⟨s,o1,hs1,e1,ks,ch1,P1⟩:=aok (m:=2) (ds:=[7,23]) (K:=aj (sC (.int 7)) (aj (sC (.int 23)) bz)) (τ:=[some sc,some (.ref 0),some (.str (S tg)),t3,t4,t5,t6',t7,t8,t9,t10,t11,t12]) t1 t6 nd P (by omega) ch (by simp) rfl (by decide) (by decide) (PAP.gh (gk _ _ _) (PAP.gh (gk _ _ _) EVT.wz)) rfl rfl
 obtain ⟨p,o2,e2,kp,wp,P2⟩:=afw (tg:=tg) 5 5 (by decide) s ks o1 _ P1 (by rw [b5];omega)
 have e3:=adv (tg:=tg) 5 5 (by decide) (by decide) p kp
 have lw:(sw p).length<=7776:=afx kp;have wo:=a2x 5 5 (by decide) p (PW.ok kp) (by omega)
 have lg:∀h,qu [.str (S (sw p))] h=.ok (bc (sw p).length) h:=λh=>a4o (du (by omega))
 obtain ⟨at_,o3,e4,a0,a1,P3⟩:=PN.p7 (m:=((sw p).length:Int)+1) P2 (by rw [b5];omega) (by omega) (by omega)
 obtain ⟨at_,rfl⟩:=aU a0;obtain ⟨j,o4,e5,j0,j1,P4⟩:=PN.p7 (m:=(tg.length:Int)) P3 (by rw [b5];omega) (by omega) (by omega)
 obtain ⟨j,rfl⟩:=aU j0;have hj:j<tg.length:=by omega
 obtain ⟨b,o5,e6,b0,b1,P5⟩:=PN.p7 (m:=2) P4 (by rw [b5];omega) (by omega) (by omega)
 obtain ⟨b,rfl⟩:=aU b0;obtain ⟨c,o6,e7,c0,c1,P6⟩:=PN.p7 (m:=2) P5 (by rw [b5];omega) (by omega) (by omega)
 obtain ⟨c,rfl⟩:=aU c0;obtain ⟨y,o7,e8,ly,_,P7⟩:=atd (most:=6) t1 (by omega) (by omega) P6 (by rw [b5];omega)
 let sg:List Nat:=if b=0 then [] else [tg[j]]
 have lsg:sg.length<=1:=by show (if b=0 then [] else [tg[j]]).length<=1;split<;>simp
 let nr:List Nat:=(sw p).take at_++sg++(sw p).drop (at_+c)
 have lnr:nr.length<=8000:=by
  show ((sw p).take at_++sg++(sw p).drop (at_+c)).length<=8000;simp only [av,bg,bN];omega
 let ws:List (List Nat):=[(sw p).take 16,nr.take 16,y,[],(sw p).take 16]
 have wl:∀x∈ws,x.length<=16:=λx hx=>by
  simp only [ws,aC,bA,e9] at hx
  rcases hx with rfl|rfl|rfl|rfl|rfl
  .rw [bg];omega
  .rw [bg];omega
  .omega
  .simp
  .rw [bg];omega
 obtain ⟨τ',h',ew,t10',rfl,rfl⟩:=vy (g:=kN 10) (b:=B0) wD (λ_ τ h=>∃t10:Option D,τ=[some sc,some (.ref 0),some (.str (S tg)),t3,some (sd s),some (pd p),some (wD (sw p)),some (bc at_),some (wD sg),some (wD nr),t10,t11,t12]/\h=o7::hs1) ws [some sc,some (.ref 0),some (.str (S tg)),t3,some (sd s),some (pd p),some (wD (sw p)),some (bc at_),some (wD sg),some (wD nr),t10,t11,t12] (o7::hs1)
  (by
   rintro pre x post τ h al ⟨t10,rfl,rfl⟩
   have f:=aar (wl x (by rw [al];simp)) ks
   exact ⟨_,_,rfl,_,_,ifF (h1:=o7::hs1) (ahm (a0z (ul (bw rfl) (bw rfl) (f _)) (ug _))),_,rfl,rfl⟩) ⟨_,rfl,rfl⟩
 refine ⟨some (sd s),some (pd p),some (wD (sw p)),some (bc at_),some (wD sg),some (wD nr),t10',o7,hs1,?_,ch1,P7.up (by rw [b5];omega)⟩
 unfold B1 a9y;refine ap (m7 e1) ?_;refine ap (m7 (ul (bw rfl) (bw rfl) (e2 0 _ rfl))) ?_;refine ap (m7 (tu (bw rfl) (e3 _))) ?_;refine ap (m7 (ul (bw rfl) (ig (tu (bw rfl) (lg _)) (gk _ _ _) ach) (e4 0 _ rfl))) ?_;have chO:∀(u:O),ux 0 u->∀v∈u::hs1,ux 0 v:=λu cu v hv=>by
  rcases aC.mp hv with rfl|hv
  .exact cu
  .exact ch1 v hv
 have z8:∀τ:Sd,τ[1]? = some (some (.ref 0))->τ[2]? = some (some (.str (S tg)))->s2 gIx (sZ (sA MI.uz (aj (sC (.str "")) (aj (s2 gIx (sV 2) (sA (kj false 2 PN.az) (aj (sV 1) (aj (sA qu (aj (sV 2) bz)) bz)))) bz)))) (sA (kj false 2 PN.az) (aj (sV 1) (aj (sC (.int 2)) bz))) τ (o3::hs1)=.ok (wD sg) (o5::hs1):=λτ v1 v2=>by
  have zl:sZ (sA MI.uz (aj (sC (.str "")) (aj (s2 gIx (sV 2) (sA (kj false 2 PN.az) (aj (sV 1) (aj (sA qu (aj (sV 2) bz)) bz)))) bz))) τ (o3::hs1)=.ok (.rol [wD [],wD [tg[j]]]) (o4::hs1):=EVT.ut (PAP.gh (gk _ _ _) (PAP.gh (ig (bw v2) (ul (bw v1) (tu (bw v2) (a4o (du (by omega)))) (e5 0 _ rfl)) (asm (du (by omega)) (ag hj))) EVT.wz)) rfl (bh (j5 _) (bh (j5 _) gf)) (chO _ P4.clo) (by simp)
  refine ig zl (ul (bw v1) (gk _ _ _) (e6 0 _ rfl)) (afn ?_);have:b=0\/b=1:=by omega
  rcases this with rfl|rfl
  .rfl
  .rfl
 refine ap (m7 (z8 _ rfl rfl)) ?_;have z9:∀τ:Sd,τ[1]? = some (some (.ref 0))->τ[6]? = some (some (wD (sw p)))->τ[7]? = some (some (bc at_))->τ[8]? = some (some (wD sg))->s2 jo (s2 jo (a2a (sV 6) oN (oS (sV 7))) (sV 8)) (a2a (sV 6) (oS (s2 jo (sV 7) (sA (kj false 2 PN.az) (aj (sV 1) (aj (sC (.int 2)) bz))))) oN) τ (o5::hs1)=.ok (wD nr) (o6::hs1):=λτ v1 v6 v7 v8=>by
  refine ig (ig (alx (bw v6) EVT.aku (ahn (bw v7)) (axy at_ (du (by omega)))) (bw v8) (akg (du (by rw [bg];omega)))) (alx (bw v6) (ahn (ig (bw v7) (ul (bw v1) (gk _ _ _) (e7 0 _ rfl)) (show jo (bc at_) (bc c) _=.ok (bc (at_+c)) _ from rfl))) EVT.aku (apg (at_+c) (du (by omega)))) (akg (du (by simp only [av,bg,bN];omega)))
 refine ap (m7 (z9 _ rfl rfl rfl rfl)) ?_;have ask:∀τ:Sd,τ[5]? = some (some (pd p))->τ[6]? = some (some (wD (sw p)))->a8m (sT (s2 gLt (sA qu (aj (sV 6) bz)) (sC (.int 241)))) (sT (s2 hNe (sA (kj false 1 (j9 5)) (aj (sV 5) bz)) (sV 6))) τ (o6::hs1)=.ok false (o6::hs1):=λτ v5 v6=>by
  by_cases q:(sw p).length<241
  .exact ahb (tof (ig (tu (bw v6) (lg _)) (gk _ _ _) (api (by omega)))) (tof (ig (tu (bw v5) (wo _)) (bw v6) asv))
  .exact alw (tof (ig (tu (bw v6) (lg _)) (gk _ _ _) (apj (by omega))))
 refine ap (ifN (ask _ rfl rfl)) ?_;have tp:∀τ:Sd,τ[1]? = some (some (.ref 0))->τ[2]? = some (some (.str (S tg)))->τ[6]? = some (some (wD (sw p)))->τ[9]? = some (some (wD nr))->sA MI.ww (aj (a2a (sV 6) oN (oS (sC (.int 16)))) (aj (a2a (sV 9) oN (oS (sC (.int 16)))) (aj (sA (kj false 3 jz) (aj (sV 1) (aj (sV 2) (aj (sC (.int 6)) bz)))) (aj (sC (.str "")) (aj (a2a (sV 6) oN (oS (sC (.int 16)))) bz))))) τ (o6::hs1)=.ok (.tup (ws.map wD)) (o7::hs1):=λτ v1 v2 v6 v9=>by
  have w6:∀h,a2a (sV 6) oN (oS (sC (.int 16))) τ h=.ok (wD ((sw p).take 16)) h:=λh=>alx (bw v6) EVT.aku (ahn (gk _ _ _)) (axy 16 (du (by omega)))
  exact PAP.aof (PAP.gh (w6 _) (PAP.gh (alx (bw v9) EVT.aku (ahn (gk _ _ _)) (axy 16 (du (by omega)))) (PAP.gh (ax3 (bw v1) (bw v2) (gk _ _ _) (e8 0 _ rfl)) (PAP.gh (gk _ _ _) (PAP.gh (w6 _) EVT.wz))))) (by unfold MI.ww;rw [aE (du (by simp))];rfl)
 refine ap ?_ ew;unfold a8o;rw [a7w (tp _ rfl rfl rfl rfl) rfl];rfl
end
def aon:SF:=qb (ao1 (di 5) PN.my jm (jb 5) (fu 5) PN.ji PN.iy PN.az jz (j9 5)) 13
theorem axo(ns:List Int):∃h',aon [.scr (ns.map D.int)] []=.ok (.bl true) h':=by
 obtain ⟨o0,P0,e0⟩:=PN.axa ns []
 let sc:D:=.scr (ns.map D.int)
 obtain ⟨tg,o1,e1,t1,t6,nd,sb,P1⟩:=signs_at (τ:=[some sc,some (.ref 0),none,none,none,none,none,none,none,none,none,none,none]) P0 (by omega) rfl
 obtain ⟨τ',h',e3,t3,t4,t5,t6',t7,t8,t9,t10,o2,hs,rfl,rfl,ch,P2⟩:=vy (g:=kN 3) (b:=B1) bc (λpre τ h=>∃(t3 t4 t5 t6 t7 t8 t9 t10:Option D) (o':O) (hs:Hd),τ=[some sc,some (.ref 0),some (.str (S tg)),t3,t4,t5,t6,t7,t8,t9,t10,none,none]/\h=o'::hs/\(∀u∈hs,ux 0 u)/\PN.Pen o' (10+pre.length*7000000)) (List.range 2) [some sc,some (.ref 0),some (.str (S tg)),none,none,none,none,none,none,none,none,none,none] [o1]
  (by
   rintro pre i post τ h al ⟨t3,t4,t5,t6',t7,t8,t9,t10,o',hs,rfl,rfl,ch,P'⟩
   have hl:pre.length<2:=by
    have:=ah List.length al
    simp at this;omega
   obtain ⟨u4,u5,u6,u7,u8,u9,u10,o'',hs',e,ch',P''⟩:=turn (sc:=sc) (t3:=some (bc i)) (t4:=t4) (t5:=t5) (t6':=t6') (t7:=t7) (t8:=t8) (t9:=t9) (t10:=t10) (t11:=none) (t12:=none) t1 t6 nd ch P' (by omega)
   refine ⟨_,_,rfl,_,_,e,_,_,_,_,_,_,_,_,o'',hs',rfl,rfl,ch',?_⟩;rw [av,aK,cZ];exact P''.up (by omega)) ⟨none,none,none,none,none,none,none,none,o1,[],rfl,rfl,by simp,P1.up (by simp)⟩
 rw [aF] at P2;obtain ⟨cs,o3,e4,q,P3,cl⟩:=a6g (hs:=hs) (fi:=sRg v4 (aj (sC (.int 16)) bz)) (t:=MI.t1) (fe:=afg (di 5) PN.my jm (jb 5) (fu 5) PN.ji PN.iy PN.az jz (j9 5)) (ix:=[1,2]) (τ:=[some sc,some (.ref 0),some (.str (S tg)),t3,t4,t5,t6',t7,t8,t9,t10,none,none]) (B:=1) (M:=100000000) (List.range 16) bc (λc:Nat=>wD [c]) (λ_ c=>c∈tg) P2 (by rw [aF];omega) (by rw [aF];omega) ch
  (xu (n:=16) (gk _ _ _) (du (by omega))) (λx hx o N' P' hN'=>by
   obtain ⟨j,o3,e3,j0,j1,P3⟩:=PN.p7 (m:=(tg.length:Int)) P' (by omega) (by omega) (by omega)
   obtain ⟨j,rfl⟩:=aU j0;have hj:j<tg.length:=by omega
   refine ⟨tg[j],o3,?_,j5 _,bZ hj,P3⟩;rw [sy];exact ig (bw rfl) (ul (bw rfl) (tu (bw rfl) (a4o (du (by omega)))) (e3 0 _ rfl)) (asm (du (by omega)) (ag hj)))
 have ql:=q.len;rw [aF] at ql;have jn:a8e (.str (S [])) [.rol (cs.map λc:Nat=>wD [c])] (o3::hs)=.ok (wD cs) (o3::hs):=by
  have j:=K76.acg (ls:=cs.map λc=>[c]) (h:=o3::hs) (by rw [a4u];omega)
  rw [bB,a4u] at j;exact j
 have one:a3g tg 4 (.one tg):=⟨t1,t6,λc hc=>hc⟩;have one3:a3g tg 3 (.one tg):=⟨t1,t6,λc hc=>hc⟩;have r1:=aar (w:=cs) (tg:=tg) (s:=.many (.one tg)) (by omega) one
 have r2:=aar (w:=cs) (tg:=tg) (s:=.many (.tim (.one tg) 0 1)) (by omega) ⟨by decide,by decide,one3⟩
 rw [sd,sd] at r1;rw [sd,sd,sd] at r2;refine ⟨o3::hs,?_⟩;unfold aon;rw [jf];show toR (ao1 (di 5) PN.my jm (jb 5) (fu 5) PN.ji PN.iy PN.az jz (j9 5) [some sc,none,none,none,none,none,none,none,none,none,none,none,none] [])=_;unfold ao1;refine ap (ah toR (m7 (tu (bw rfl) e0))) ?_;refine ap (ah toR (m7 e1)) ?_;refine ap (ah toR (a7v (xu (n:=2) (gk _ _ _) (du (by omega))))) ?_
 refine ap (ah (λz=>toR (MI.thn z _)) e3) ?_;rw [a5u];refine ap (ah toR (m7 (K76.axd (z:=S []) (gk _ _ _) (arg1 e4) jn))) ?_;refine ap (ah toR (m7 (ul (gk _ _ _) (bw rfl) a8x))) ?_;have t4':∀(x:D) (h:Hd),MI.ww [.str "times",x,.int 0,.int 1] h=.ok (.tup [.str "times",x,.int 0,.int 1]) h:=λx h=>b0x;exact ah toR (jd (ahc (ul (ul (gk _ _ _) (bw rfl) a8x) (bw rfl) (r1 _)) (ul (ul (gk _ _ _) (PAP.aof (PAP.gh (gk _ _ _) (PAP.gh (bw rfl) (PAP.gh (gk _ _ _) (PAP.gh (gk _ _ _) EVT.wz)))) (t4' _ _)) a8x) (bw rfl) (r2 _))))
end K09
namespace L2
open PySem.W PyProof.Rows
end L2
namespace K09
open L2 MI
section
variable{P:Program}{w:World}{K:PySem.W.Frag}{mg:Str->Option Value}{base:Heap}{f:Addr}{fd:FuncData}
theorem d_1{f_1:Addr}{e_1:FuncData}(Fu_1:Fun K "ending_tree" "ending_tree" (top 3) f_1 e_1)(mk_1:mg "ending_tree" = some (.ref f_1))(kp_1:PySem.W.keepIn K (.ref f_1)=true)(bd_1:Binds K e_1 ["shape","word"] [])(M:Nm mg){a_2:Addr}{d_2:FuncData}(D_2:Dn P w K mg base 3 "ends_from" ["shape","rows","word","at"] (qd K 4 (ENG.jk)) a_2 d_2){a_0:Addr}{d_0:FuncData}(D_0:Dn P w K mg base 1 "inner" ["shape"] (qd K 1 (ENG.uc)) a_0 d_0):∀n:Nat,Dn P w K mg base (n+3) "ending_tree" ["shape","word"] (qd K 2 (ENG.ik n)) f_1 e_1:=by
 intro n
 induction n with
 |zero=>exact ⟨a79 (ps:=["shape","word"]),mk_1,kp_1,bd_1⟩
 |succ n ih =>
  have e:n+1+3=n+3+1:=by omega
  rw [e];have s_ending_tree:=ih;exact ⟨a0s Fu_1 b0m (m_1 M s_ending_tree (by omega) D_2 (by omega) D_0 (by omega)),mk_1,kp_1,bd_1⟩
theorem d_8{f_8:Addr}{e_8:FuncData}(Fu_8:Fun K "paper_of" "paper_of" (top 11) f_8 e_8)(mk_8:mg "paper_of" = some (.ref f_8))(kp_8:PySem.W.keepIn K (.ref f_8)=true)(bd_8:Binds K e_8 ["shape","tree","word","stretch"] []){f_9:Addr}{e_9:FuncData}(Fu_9:Fun K "papers_again" "papers_again" (top 12) f_9 e_9)(mk_9:mg "papers_again" = some (.ref f_9))(kp_9:PySem.W.keepIn K (.ref f_9)=true)(bd_9:Binds K e_9 ["part","tree","word","stretch","counts"] []){f_10:Addr}{e_10:FuncData}(Fu_10:Fun K "papers_in_turn" "papers_in_turn" (top 13) f_10 e_10)(mk_10:mg "papers_in_turn" = some (.ref f_10))(kp_10:PySem.W.keepIn K (.ref f_10)=true)(bd_10:Binds K e_10 ["parts","trees","word","stretch"] [])(M:Nm mg){a_11:Addr}{d_11:FuncData}(D_11:Dn P w K mg base 2 "chain" ["rows","start","end"] (qd K 3 (K09.n8)) a_11 d_11):∀n:Nat,Dn P w K mg base (n+2) "paper_of" ["shape","tree","word","stretch"] (qd K 4 (K09.dq n)) f_8 e_8/\Dn P w K mg base (n+2) "papers_again" ["part","tree","word","stretch","counts"] (qd K 5 (K09.jj n)) f_9 e_9/\Dn P w K mg base (n+2) "papers_in_turn" ["parts","trees","word","stretch"] (qd K 4 (K09.c7 n)) f_10 e_10:=by
 intro n
 induction n with
 |zero=>exact ⟨⟨a79 (ps:=["shape","tree","word","stretch"]),mk_8,kp_8,bd_8⟩,⟨a79 (ps:=["part","tree","word","stretch","counts"]),mk_9,kp_9,bd_9⟩,⟨a79 (ps:=["parts","trees","word","stretch"]),mk_10,kp_10,bd_10⟩⟩
 |succ n ih =>
  have e:n+1+2=n+2+1:=by omega
  rw [e];obtain ⟨s_paper_of,s_papers_again,s_papers_in_turn⟩:=ih;exact ⟨⟨a0s Fu_8 b0t (m_8 s_paper_of (by omega) s_papers_again (by omega) s_papers_in_turn (by omega)),mk_8,kp_8,bd_8⟩,⟨a0s Fu_9 b0u (m_9 M s_papers_in_turn (by omega)),mk_9,kp_9,bd_9⟩,⟨a0s Fu_10 awd (b1x M D_11 (by omega) s_paper_of (by omega)),mk_10,kp_10,bd_10⟩⟩
theorem ay8{f_12:Addr}{e_12:FuncData}(Fu_12:Fun K "word_of" "word_of" (top 15) f_12 e_12)(mk_12:mg "word_of" = some (.ref f_12))(kp_12:PySem.W.keepIn K (.ref f_12)=true)(bd_12:Binds K e_12 ["paper"] [])  : ∀n:Nat,Dn P w K mg base (n+0) "word_of" ["paper"] (qd K 1 (K09.j9 n)) f_12 e_12:=by
 intro n
 induction n with
 |zero=>exact ⟨a79 (ps:=["paper"]),mk_12,kp_12,bd_12⟩
 |succ n ih =>
  have e:n+1+0=n+0+1:=by omega
  rw [e];have s_word_of:=ih;exact ⟨a0s Fu_12 awf (b1z s_word_of (by omega)),mk_12,kp_12,bd_12⟩
theorem azu{f_17:Addr}{e_17:FuncData}(Fu_17:Fun K "_law_shape" "_law_shape" (top 21) f_17 e_17)(mk_17:mg "_law_shape" = some (.ref f_17))(kp_17:PySem.W.keepIn K (.ref f_17)=true)(bd_17:Binds K e_17 ["_law_pen_here","_law_purse","_law_deep","_law_tongue"] [])(M:Nm mg){a_16:Addr}{d_16:FuncData}(D_16:Dn P w K mg base 2 "_law_some" ["_law_pen_here","_law_rest","_law_most"] (qd K 3 (PN.iy)) a_16 d_16){a_14:Addr}{d_14:FuncData}(D_14:Dn P w K mg base 1 "_law_take" ["_law_pen_here","_law_many"] (qd K 2 (PN.az)) a_14 d_14):∀n:Nat,Dn P w K mg base (n+2) "_law_shape" ["_law_pen_here","_law_purse","_law_deep","_law_tongue"] (qd K 4 (SHD.fu n)) f_17 e_17:=by
 intro n
 induction n with
 |zero=>exact ⟨a79 (ps:=["_law_pen_here","_law_purse","_law_deep","_law_tongue"]),mk_17,kp_17,bd_17⟩
 |succ n ih =>
  have e:n+1+2=n+2+1:=by omega
  rw [e];have s_law_shape:=ih;exact ⟨a0s Fu_17 awk (b24 M s_law_shape (by omega) D_16 (by omega) D_14 (by omega)),mk_17,kp_17,bd_17⟩
theorem azv{f_24:Addr}{e_24:FuncData}(Fu_24:Fun K "_law_all" "_law_all" (top 28) f_24 e_24)(mk_24:mg "_law_all" = some (.ref f_24))(kp_24:PySem.W.keepIn K (.ref f_24)=true)(bd_24:Binds K e_24 ["_law_shape_here","_law_word_here"] [])(M:Nm mg){a_21:Addr}{d_21:FuncData}(D_21:Dn P w K mg base 1 "_law_again" ["_law_rows"] (qd K 1 (ENG.iz)) a_21 d_21){a_18:Addr}{d_18:FuncData}(D_18:Dn P w K mg base 1 "_law_inner" ["_law_shape_here"] (qd K 1 (ENG.j7)) a_18 d_18){a_23:Addr}{d_23:FuncData}(D_23:Dn P w K mg base 2 "_law_row" ["_law_parts","_law_size"] (qd K 2 (ENG.ju)) a_23 d_23){a_22:Addr}{d_22:FuncData}(D_22:Dn P w K mg base 2 "_law_times" ["_law_rows","_law_low","_law_high"] (qd K 3 (ENG.j6)) a_22 d_22):∀n:Nat,Dn P w K mg base (n+2) "_law_all" ["_law_shape_here","_law_word_here"] (qd K 2 (ENG.j8 n)) f_24 e_24:=by
 intro n
 induction n with
 |zero=>exact ⟨a79 (ps:=["_law_shape_here","_law_word_here"]),mk_24,kp_24,bd_24⟩
 |succ n ih =>
  have e:n+1+2=n+2+1:=by omega
  rw [e];have s_law_all:=ih;exact ⟨a0s Fu_24 awr (b2f M D_21 (by omega) s_law_all (by omega) D_18 (by omega) D_23 (by omega) D_22 (by omega)),mk_24,kp_24,bd_24⟩
theorem azw{f_25:Addr}{e_25:FuncData}(Fu_25:Fun K "_law_paper" "_law_paper" (top 29) f_25 e_25)(mk_25:mg "_law_paper" = some (.ref f_25))(kp_25:PySem.W.keepIn K (.ref f_25)=true)(bd_25:Binds K e_25 ["_law_pen_here","_law_shape_here"] [])(M:Nm mg){a_14:Addr}{d_14:FuncData}(D_14:Dn P w K mg base 1 "_law_take" ["_law_pen_here","_law_many"] (qd K 2 (PN.az)) a_14 d_14):∀n:Nat,Dn P w K mg base (n+1) "_law_paper" ["_law_pen_here","_law_shape_here"] (qd K 2 (SHD.di n)) f_25 e_25:=by
 intro n
 induction n with
 |zero=>exact ⟨a79 (ps:=["_law_pen_here","_law_shape_here"]),mk_25,kp_25,bd_25⟩
 |succ n ih =>
  have e:n+1+1=n+1+1:=by omega
  rw [e];have s_law_paper:=ih;exact ⟨a0s Fu_25 aws (b2g M s_law_paper (by omega) D_14 (by omega)),mk_25,kp_25,bd_25⟩
theorem azx{f_26:Addr}{e_26:FuncData}(Fu_26:Fun K "_law_said" "_law_said" (top 30) f_26 e_26)(mk_26:mg "_law_said" = some (.ref f_26))(kp_26:PySem.W.keepIn K (.ref f_26)=true)(bd_26:Binds K e_26 ["_law_paper_here"] [])  : ∀n:Nat,Dn P w K mg base (n+0) "_law_said" ["_law_paper_here"] (qd K 1 (SHD.jb n)) f_26 e_26:=by
 intro n
 induction n with
 |zero=>exact ⟨a79 (ps:=["_law_paper_here"]),mk_26,kp_26,bd_26⟩
 |succ n ih =>
  have e:n+1+0=n+0+1:=by omega
  rw [e];have s_law_said:=ih;exact ⟨a0s Fu_26 awt (b2h s_law_said (by omega)),mk_26,kp_26,bd_26⟩
theorem b0z{f_28:Addr}{e_28:FuncData}(Fu_28:Fun K "_law_many_walked" "_law_many_walked" (top 32) f_28 e_28)(mk_28:mg "_law_many_walked" = some (.ref f_28))(kp_28:PySem.W.keepIn K (.ref f_28)=true)(bd_28:Binds K e_28 ["_law_parts","_law_papers"] []){f_29:Addr}{e_29:FuncData}(Fu_29:Fun K "_law_walked" "_law_walked" (top 33) f_29 e_29)(mk_29:mg "_law_walked" = some (.ref f_29))(kp_29:PySem.W.keepIn K (.ref f_29)=true)(bd_29:Binds K e_29 ["_law_shape_here","_law_paper_here"] [])(M:Nm mg){a_27:Addr}{d_27:FuncData}(D_27:Dn P w K mg base 1 "_law_number" ["_law_thing"] (qd K 1 (SHD.p6)) a_27 d_27):∀n:Nat,Dn P w K mg base (n+1) "_law_many_walked" ["_law_parts","_law_papers"] (qd K 2 (SHD.jw n)) f_28 e_28/\Dn P w K mg base (n+1) "_law_walked" ["_law_shape_here","_law_paper_here"] (qd K 2 (SHD.j4 n)) f_29 e_29:=by
 intro n
 induction n with
 |zero=>exact ⟨⟨a79 (ps:=["_law_parts","_law_papers"]),mk_28,kp_28,bd_28⟩,⟨a79 (ps:=["_law_shape_here","_law_paper_here"]),mk_29,kp_29,bd_29⟩⟩
 |succ n ih =>
  have e:n+1+1=n+1+1:=by omega
  rw [e];obtain ⟨s_law_many_walked,s_law_walked⟩:=ih;exact ⟨⟨a0s Fu_28 awv (b2k M s_law_walked (by omega)),mk_28,kp_28,bd_28⟩,⟨a0s Fu_29 aww (b2l M s_law_many_walked (by omega) D_27 (by omega) s_law_walked (by omega)),mk_29,kp_29,bd_29⟩⟩
end
noncomputable def aoo(K:PySem.W.Frag):Sp:=λvs H Q _=>∃(a:Addr) (ns:List Int),vs=[.ref a]/\SqF K H a (ns.map V.int)/\ns.length<=63/\∀H',Q (.bl true) H'
theorem a09{K:PySem.W.Frag}{U:List Addr}{H:Hp}:∀ns:List Int,Reps K U H (ns.map V.int) (ns.map D.int)
 |[]=>.nil
 |n::ns=>.cons (.int n) (a09 ns)
theorem axp{K:PySem.W.Frag}(vs:List V)(H:Hp)(Q:VK)(E:XK)(h:aoo K vs H Q E):qd K 1 K09.aon vs H Q E:=by
 obtain ⟨a,ns,rfl,hS,hl,q⟩:=h;obtain ⟨h',e⟩:=K09.axo ns;refine ⟨rfl,[],[.scr (ns.map D.int)],[],.cons (.scr hS (a09 ns)) .nil,⟨fq,rfl,λi a o z=>by simp at z⟩,?_⟩
 rw [e]
 intro U' H' b g r hr
 cases r
 exact q H'
theorem axq{K:PySem.W.Frag}{H:Hp}{a:Addr}{vs:List V}(hO:Only H)(hS:SqL K H a vs):SqF K H a vs:=by
 rcases hS with r|r
 .rcases r with r|⟨o,r⟩
  .rcases hO a with z|⟨o,xs,z⟩<;>rw [z] at r<;>cases r
  .exact .inl ⟨o,r⟩
 .exact .inr (.inr r)
abbrev fo(x:Str)(t:Stmt)(kV dc pm:Value)(an:Option Addr)(cd ct:Value):=PySem.W.fnOf x x (a3j t) (yw t) (dj t) .none kV dc pm an cd ct
def Df(K:PySem.W.Frag)(f:Addr)(nm:Str)(i:Nat):Prop:=∃oc od kV dc pm an cd ct sl,PySem.W.nsIn K mainGlobals nm=some (some (.ref f))/\K.lookup f=some ⟨oc,od,.func (fo nm (top i) kV dc pm an cd ct),sl⟩/\PySem.W.codeIn K cd nm=true/\PySem.W.keepIn K (.ref f)=true
theorem df{K:PySem.W.Frag}{f:Addr}{nm:Str}{i:Nat}(d:Df K f nm i):∃e,PySem.W.nsIn K mainGlobals nm=some (some (.ref f))/\Fun K nm nm (top i) f e:=by
 obtain ⟨_,_,_,_,_,_,_,_,_,a,l,c,k⟩:=d;exact ⟨_,a,aut l c k⟩
theorem a1c{P:Program}{w:World}{K:PySem.W.Frag}{mg:Str->Option Value}{base h:Heap}{f:Addr}{nm:Str}{i k:Nat}{F:SF}{N ps:List Str}{b:SS}(S:FnScope N ps (dj (top i)))(d:Df K f nm i)(X:K.In h)(G:h.Ns mainGlobals mg)
  (hb:∀(cdv:Value) (A:Around) (outer:List Env) (s:Shared) (H:Hp) (E:XK),Room k (A.deeper (PyProof.Rows.envOfC nm (dj (top i)) s.heap.objs.size f cdv))->MSs (alo CX0 P w K mg base N nm (dj (top i)) f cdv A outer s H E).nox X0 (yw (top i)) b)
  (h:∀(kV doc pm:Value) (an:Option Addr) (cdv ct:Value) (us:List Value),us.length=ps.length->bindArgs (PySem.W.fnOf nm nm (a3j (top i)) (yw (top i)) (dj (top i)) .none kV doc pm an cdv ct) ⟨us,[]⟩=pure (ps.zip us)) (e:F=qb b N.length:=by rfl) :
  ∃fd,Dn P w K mg base (k+1) nm ps (qd K ps.length F) f fd:=by
 obtain ⟨_,a,Fu⟩:=df d;rw [e];exact ⟨_,a0s Fu S hb,cN X G a,Fu.kp,Fu.binds h⟩
local macro_rules|`(tactic|walk_at "b") => `(tactic|(intro _ _ _ _ _ _ us hl;first|(apply b0g hl;intro _;exact rfl)|(apply b0h hl;intro _ _;exact rfl)|(apply b0i hl;intro _ _ _;exact rfl)|(apply b0j hl;intro _ _ _ _;exact rfl)|(apply b0k hl;intro _ _ _ _ _;exact rfl)|(apply b1w hl;intro _ _ _ _ _ _;exact rfl)|(apply len0 hl;exact rfl)))
theorem axr{l:PySem.W.OpenLaw}{w:World}{K:PySem.W.Frag}{h:Heap}{mg:Str->Option Value}{fa f1 f2 f3 f4 f5 f6 f7 f8 f9 f10 f11 f12 f13 f14 f15 f16 f17 f18 f19 f20 f21 f22 f23 f24 f25 f26 f27 f28 f29 f30 f31 f32:Addr}(X:K.In h)(G:h.Ns mainGlobals mg)(hfa:mg "law" = some (.ref fa))
  (d1:Df K f1 "inner" 1)
  (d2:Df K f2 "ending_tree" 3)
  (d3:Df K f3 "ends_from" 4)
  (d4:Df K f4 "stepped" 5)
  (d5:Df K f5 "ends_in_turn" 6)
  (d6:Df K f6 "ends_of_many" 7)
  (d7:Df K f7 "ends_of_times" 8)
  (d8:Df K f8 "taking" 10)
  (d9:Df K f9 "paper_of" 11)
  (d10:Df K f10 "papers_again" 12)
  (d11:Df K f11 "papers_in_turn" 13)
  (d12:Df K f12 "chain" 14)
  (d13:Df K f13 "word_of" 15)
  (d14:Df K f14 "_law_pen" 17)
  (d15:Df K f15 "_law_take" 18)
  (d16:Df K f16 "_law_signs" 19)
  (d17:Df K f17 "_law_some" 20)
  (d18:Df K f18 "_law_shape" 21)
  (d19:Df K f19 "_law_inner" 22)
  (d20:Df K f20 "_law_word" 23)
  (d21:Df K f21 "_law_led" 24)
  (d22:Df K f22 "_law_again" 25)
  (d23:Df K f23 "_law_times" 26)
  (d24:Df K f24 "_law_row" 27)
  (d25:Df K f25 "_law_all" 28)
  (d26:Df K f26 "_law_paper" 29)
  (d27:Df K f27 "_law_said" 30)
  (d28:Df K f28 "_law_number" 31)
  (d29:Df K f29 "_law_many_walked" 32)
  (d30:Df K f30 "_law_walked" 33)
  (d31:Df K f31 "_law_right" 34)
  (d32:Df K f32 "law" 35)
  (z1:PySem.W.nsIn K mainGlobals "abs" = some none) (z2:PySem.W.nsIn K mainGlobals "bool" = some none) (z3:PySem.W.nsIn K mainGlobals "int" = some none) (z4:PySem.W.nsIn K mainGlobals "isinstance" = some none) (z5:PySem.W.nsIn K mainGlobals "len" = some none) (z6:PySem.W.nsIn K mainGlobals "list" = some none) (z7:PySem.W.nsIn K mainGlobals "min" = some none) (z8:PySem.W.nsIn K mainGlobals "range" = some none) (z9:PySem.W.nsIn K mainGlobals "reversed" = some none) (z10:PySem.W.nsIn K mainGlobals "set" = some none) (z11:PySem.W.nsIn K mainGlobals "sorted" = some none) (z12:PySem.W.nsIn K mainGlobals "str" = some none) (z13:PySem.W.nsIn K mainGlobals "sum" = some none) (z14:PySem.W.nsIn K mainGlobals "tuple" = some none) (z15:PySem.W.nsIn K mainGlobals "zip" = some none)  :
  ∃fd:FuncData,(∀(s:Shared) (v:Value),BindsTo s fd ⟨[v],[]⟩ [("_law_script",v)])/\∀base:Heap,K.In base->base.Ns mainGlobals mg->FnOk l.prog w K mg base CX0 20 fa fd ["_law_script"] (aoo K):=by
 obtain ⟨_,a2,F2⟩:=df d2;have b2:=F2.binds (ps:=["shape","word"]) (by walk_at "b")
 obtain ⟨_,a9,F9⟩:=df d9;have b9:=F9.binds (ps:=["shape","tree","word","stretch"]) (by walk_at "b")
 obtain ⟨_,a10,F10⟩:=df d10;have b10:=F10.binds (ps:=["part","tree","word","stretch","counts"]) (by walk_at "b")
 obtain ⟨_,a11,F11⟩:=df d11;have b11:=F11.binds (ps:=["parts","trees","word","stretch"]) (by walk_at "b")
 obtain ⟨_,a13,F13⟩:=df d13;have b13:=F13.binds (ps:=["paper"]) (by walk_at "b")
 obtain ⟨_,a18,F18⟩:=df d18;have b18:=F18.binds (ps:=["_law_pen_here","_law_purse","_law_deep","_law_tongue"]) (by walk_at "b")
 obtain ⟨_,a25,F25⟩:=df d25;have b25:=F25.binds (ps:=["_law_shape_here","_law_word_here"]) (by walk_at "b")
 obtain ⟨_,a26,F26⟩:=df d26;have b26:=F26.binds (ps:=["_law_pen_here","_law_shape_here"]) (by walk_at "b")
 obtain ⟨_,a27,F27⟩:=df d27;have b27:=F27.binds (ps:=["_law_paper_here"]) (by walk_at "b")
 obtain ⟨_,a29,F29⟩:=df d29;have b29:=F29.binds (ps:=["_law_parts","_law_papers"]) (by walk_at "b")
 obtain ⟨_,a30,F30⟩:=df d30;have b30:=F30.binds (ps:=["_law_shape_here","_law_paper_here"]) (by walk_at "b")
 obtain ⟨_,a32,F32⟩:=df d32;have e:=hfa.symm.trans (cN X G a32);cases e
 obtain ⟨oc,od,kV32,dc32,pm32,an32,cd32,ct32,sl,rfl,lk,hc⟩:=id F32.ex;have b32:=F32.binds (ps:=["_law_script"]) (by walk_at "b")
 have M:Nm mg:=⟨bD X G z1,bD X G z2,bD X G z3,bD X G z4,bD X G z5,bD X G z6,bD X G z7,bD X G z8,bD X G z9,bD X G z10,bD X G z11,bD X G z12,bD X G z13,bD X G z14,bD X G z15⟩;refine ⟨PySem.W.fnOf "law" "law" (a3j (top 35)) (yw (top 35)) (dj (top 35)) .none kV32 dc32 pm32 an32 cd32 ct32,λs v=>.of_eq rfl,λbase _ _=>?_⟩
 obtain ⟨_,D_0⟩:=a1c (F:=ENG.uc) (k:=0) b0l d1 X G (m_0 ) (by walk_at "b")
 obtain ⟨_,D_3⟩:=a1c (F:=ENG.dg) (k:=0) b0o d4 X G (m_3 M) (by walk_at "b")
 obtain ⟨_,D_4⟩:=a1c (F:=ENG.ph) (k:=1) b0p d5 X G (m_4 D_3 (by decide)) (by walk_at "b")
 obtain ⟨_,D_5⟩:=a1c (F:=ENG.pq) (k:=1) b0q d6 X G (m_5 M D_3 (by decide)) (by walk_at "b")
 obtain ⟨_,D_6⟩:=a1c (F:=ENG.nu) (k:=1) b0r d7 X G (m_6 M D_3 (by decide)) (by walk_at "b")
 obtain ⟨_,D_2⟩:=a1c (F:=ENG.jk) (k:=2) b0n d3 X G (m_2 M D_4 (by decide) D_5 (by decide) D_6 (by decide)) (by walk_at "b")
 have D_1:=d_1 (P:=l.prog) (w:=w) (base:=base) F2 (cN X G a2) F2.kp b2 M D_2 D_0 5;obtain ⟨_,D_11⟩:=a1c (F:=K09.n8) (k:=1) awe d12 X G (b1y M D_3 (by decide)) (by walk_at "b")
 obtain ⟨D_8,D_9,D_10⟩:=d_8 (P:=l.prog) (w:=w) (base:=base) F9 (cN X G a9) F9.kp b9 F10 (cN X G a10) F10.kp b10 F11 (cN X G a11) F11.kp b11 M D_11 15;obtain ⟨_,D_7⟩:=a1c (F:=K09.a02) (k:=17) b0s d8 X G (m_7 M D_1 (by decide) D_8 (by decide)) (by walk_at "b")
 have D_12:=ay8 (P:=l.prog) (w:=w) (base:=base) F13 (cN X G a13) F13.kp b13  5;obtain ⟨_,D_13⟩:=a1c (F:=PN.my) (k:=0) awg d14 X G (b20 ) (by walk_at "b")
 obtain ⟨_,D_14⟩:=a1c (F:=PN.az) (k:=0) awh d15 X G (b21 M) (by walk_at "b")
 obtain ⟨_,D_15⟩:=a1c (F:=PN.ji) (k:=0) awi d16 X G (b22 ) (by walk_at "b")
 obtain ⟨_,D_16⟩:=a1c (F:=PN.iy) (k:=1) awj d17 X G (b23 M D_14 (by decide)) (by walk_at "b")
 have D_17:=azu (P:=l.prog) (w:=w) (base:=base) F18 (cN X G a18) F18.kp b18 M D_16 D_14 5;obtain ⟨_,D_18⟩:=a1c (F:=ENG.j7) (k:=0) awl d19 X G (b28 ) (by walk_at "b")
 obtain ⟨_,D_19⟩:=a1c (F:=ENG.jz) (k:=1) awm d20 X G (b2a M D_14 (by decide)) (by walk_at "b")
 obtain ⟨_,D_20⟩:=a1c (F:=ENG.iu) (k:=0) awn d21 X G (b2b M) (by walk_at "b")
 obtain ⟨_,D_21⟩:=a1c (F:=ENG.iz) (k:=0) awo d22 X G (b2c M) (by walk_at "b")
 obtain ⟨_,D_22⟩:=a1c (F:=ENG.j6) (k:=1) awp d23 X G (b2d M D_20 (by decide)) (by walk_at "b")
 obtain ⟨_,D_23⟩:=a1c (F:=ENG.ju) (k:=1) awq d24 X G (b2e M D_20 (by decide)) (by walk_at "b")
 have D_24:=azv (P:=l.prog) (w:=w) (base:=base) F25 (cN X G a25) F25.kp b25 M D_21 D_18 D_23 D_22 5;have D_25:=azw (P:=l.prog) (w:=w) (base:=base) F26 (cN X G a26) F26.kp b26 M D_14 5;have D_26:=azx (P:=l.prog) (w:=w) (base:=base) F27 (cN X G a27) F27.kp b27  5;obtain ⟨_,D_27⟩:=a1c (F:=SHD.p6) (k:=0) awu d28 X G (b2j M) (by walk_at "b")
 obtain ⟨D_28,D_29⟩:=b0z (P:=l.prog) (w:=w) (base:=base) F29 (cN X G a29) F29.kp b29 F30 (cN X G a30) F30.kp b30 M D_27 11;obtain ⟨_,D_30⟩:=a1c (F:=K09.jm) (k:=18) awx d31 X G (b2m M D_24 (by decide) D_29 (by decide) D_7 (by decide) D_12 (by decide)) (by walk_at "b")
 have D_31:Dn l.prog w K mg base 20 "law" ["_law_script"] (qd K 1 (K09.aon)) _ _:=⟨a0s F32 awy (b2n M D_25 (by decide) D_13 (by decide) D_30 (by decide) D_26 (by decide) D_17 (by decide) D_15 (by decide) D_16 (by decide) D_14 (by decide) D_19 (by decide) D_12 (by decide)),cN X G a32,F32.kp,b32⟩
 exact D_31.ok.imp axp
theorem walk{l:PySem.W.OpenLaw}{q:Program}{loose:List Str}{XP:(Str->Option Value)->Heap->Prop}{YP:World->Heap->Prop}{d:DefRec}{K:Params->PySem.W.Frag}(hn:l.most=some 63)(hdf:d.params.defaults=[])
  (hY:∀(w:World) (h:Heap),YP w h->(K w.params).In h)
  (F:∀(w:World) (mg:Str->Option Value) (fa:Addr) (h:Heap),(K w.params).In h->h.Ns mainGlobals mg->mg d.name=some (.ref fa)->
   ∃fd:FuncData,(∀(s:Shared) (u:Value),BindsTo s fd ⟨[u],[]⟩ [("_law_script",u)])/\∀base:Heap,(K w.params).In base->base.Ns mainGlobals mg->FnOk l.prog w (K w.params) mg base CX0 20 fa fd ["_law_script"] (aoo (K w.params))) :
  PySem.W.WalkO q loose XP YP l.row.toRowW d [] (λf vs=>PySem.call f vs) :=
 L2.aqm (n:=63) (k:=20) (x := "_law_script") (CX:=λ_=>CX0) (sp:=λw=>aoo (K w.params)) hn (by decide) hdf ⟨rfl,by decide,by decide,rfl⟩ hY F (λ_ _ a ns hl hO hS=>⟨a,ns,rfl,axq hO hS,hl,λ_=>rfl⟩) λ_ _ _ _ _ z=>z
end K09
open PySem.W PyProof.Rows
theorem K09.said:PySem.Challenge.rw_nearreach_k09_takings_walked.wellSaid=true:=by kernel_rfl
def K09.hq:Program:=view PySem.Challenge.pw_nearreach_k09_takings_walked [PySem.Challenge.pw_nearreach_k09_takings_walked.main.body.length-1]
def K09.hl:List Str:=PySem.Challenge.pw_nearreach_k09_takings_walked.boundNames
local macro_rules|`(tactic|o_head $H) => `(tactic|refine PySem.W.holds_open (q:=K09.hq) (loose:=K09.hl) (Xt:=fun _=>true) (XP:=fun _ _=>True) (Yf:=Hook.obs $H) (Ya:=Hook.val $H) (YP:=Hook.says $H) (N:=20000) ?hl (Hook.of $H) (Hook.keeps $H) (fun _ _=>trivial) (fun _ _ _ _ _=>trivial) (by rfl) (by rfl) (by rfl) (fun _ _=>recFacts_nil rfl) (by rfl) (by assumption) (by decide +kernel) ⟨rfl,rfl,rfl,rfl,rfl,by decide +kernel⟩ ?hw ?hc)
set_option maxRecDepth 100000 in
set_option maxHeartbeats 0 in
theorem PySem.Challenge.cw_nearreach_k09_takings_walked_holds : PySem.Challenge.rw_nearreach_k09_takings_walked.Holds := by
 w_on;refine holds_law K09.said fun said=>?_;k_head
 (case hw=>w_witness2)
 (case hl=>intro w;kernel_rfl)
 k_fill
 refine K09.walk (l:=PySem.Challenge.rw_nearreach_k09_takings_walked) rfl rfl (fun w h Y=>PySem.W.kIn_of Y) ?F
 case F =>
  intro w mg fa h KX G hmg
  refine' K09.axr KX G hmg ?_ ?_ ?_ ?_ ?_ ?_ ?_ ?_ ?_ ?_ ?_ ?_ ?_ ?_ ?_ ?_ ?_ ?_ ?_ ?_ ?_ ?_ ?_ ?_ ?_ ?_ ?_ ?_ ?_ ?_ ?_ ?_ ?_ ?_ ?_ ?_ ?_ ?_ ?_ ?_ ?_ ?_ ?_ ?_ ?_ ?_ ?_
  all_goals first | k_is | exact ⟨_,_,_,_,_,_,_,_,_,by k_is,by k_is,by k_is,by k_is⟩ | skip
