import PyProof.Rows.All
import Wide.All
import OpenK.AllK
import Wide.FinOn
import Lean
import PyProof.EqAt
import PyProof.EqKinds
import PyProof.TupleCall
import PyProof.ListStr
import PyProof.TupleOfStr
import PyProof.ConsumeWalk
import PyProof.SliceStr2
import PyProof.CompUse
import PyProof.Rows.SetFrom
import PyProof.SetRoads
import PyProof.StrLawsIn
import PyProof.Rows.StrIndexOr
import PyProof.Rows.StrJoin2
import PyProof.Rows.SumAny
import PyProof.WalkInts
import PyProof.SeqI3
import PyProof.Draws
import PyProof.ZipIter
import PyProof.EnumMake
import Wide.Txt2
import PyProof.Rows.SortWalk
import PyProof.ListRange
import PyProof.Rows.Range3
import KE.KStateDown
import PyProof.ReprRoads
import PyProof.CallFns
import PyProof.WalksMore
import KE.KTryDeep
import PyProof.ExcBaseAll.ValueError
import KE.KTryMore
import KE.KIsNot
import PyProof.ExcAttrAll.ValueError
import PyProof.NsDelKeeps
import PySem.SetOps
import PyProof.SetScanFacts
import PyProof.Walks
import PyProof.CollectWalk
import PyProof.SumWalk
import PyProof.SeqWrite
import KE.KRevIter
import PyProof.CollectIter
import PyProof.WalksS
import KE.IntBitsLaws
import PySem.Challenge.RW_nearreach_k16_books_looked_at
set_option compiler.extract_closed false
set_option bootstrap.genMatcherCode false
set_option genSizeOf false
noncomputable section
set_option Elab.async false
set_option linter.all false
set_option maxRecDepth 100000
set_option maxHeartbeats 4000000
section
open PySem PySem.W PyProof.Rows
theorem K16.said:PySem.Challenge.rw_nearreach_k16_books_looked_at.wellSaid=true:=by kernel_rfl
def K16.hq:Program:=view PySem.Challenge.pw_nearreach_k16_books_looked_at [PySem.Challenge.pw_nearreach_k16_books_looked_at.main.body.length - 1]
def K16.hl:List Str:=PySem.Challenge.pw_nearreach_k16_books_looked_at.boundNames
local macro_rules | `(tactic| o_head $H) => `(tactic| refine PySem.W.holds_open (q:=K16.hq) (loose:=K16.hl) (Xt:=fun _=>true) (XP:=fun _ _=>True) (Yf:=Hook.obs $H) (Ya:=Hook.val $H) (YP:=Hook.says $H) (N:=20000) ?hl (Hook.of $H) (Hook.keeps $H) (fun _ _=>trivial) (fun _ _ _ _ _=>trivial) (by rfl) (by rfl) (by rfl) (fun _ _=>recFacts_nil rfl) (by rfl) (by assumption) (by decide +kernel) ⟨rfl,rfl,rfl,rfl,rfl,by decide +kernel⟩ ?hw ?hc)
set_option maxRecDepth 100000 in
set_option maxHeartbeats 0 in
theorem K16.A (hyp:∀ p:Prop,p):PySem.Challenge.rw_nearreach_k16_books_looked_at.Holds:=by
 w_on;refine holds_law K16.said fun said=>?_;k_head
 all_goals exact hyp _
set_option maxRecDepth 100000 in
set_option maxHeartbeats 0 in
theorem K16.hlok:LeftO PySem.Challenge.rw_nearreach_k16_books_looked_at.row.prog K16.hq K16.hl (fun _=>true) (Hook.obs (kHook K16.A.heap_1 [2,3,15,17,18,20,21,22,24,25,27,28,29,31,32,34,35,36,38,39,41,42,43,46,47,48,50,51,53,54,55,57,58,60,61,62,64,65,67,68,69,71,72,74,75,76,78,79,81,82,83,86,87,88,90,91,93,94,95,102,103,104,105,108,115,116,117,120,127,128,129,132,139,140,141,144,151,152,153,156,163,164,165,168,170,171,173,174,175,178,179,180,183,184,185,188,189,190,193,194,195,198,199,200,203,204,205,207,208,210,211,212,214,215,217,218,219,221,222,224,225,226,228,229,231,232,233,236,237,238,240,241,243,244,245,248,249,250,252,253,255,256,257,259,260,262,263,264,267,268,269,272,273,274,277,278,279,281,282,284,285,286,289,290,291,293,294,296,297,298,301,302,303,305,306,308,309,310,312,313,315,316,317,320,321,322,324,325,327,328] (fun _=>by kernel_rfl))) (Hook.val (kHook K16.A.heap_1 [2,3,15,17,18,20,21,22,24,25,27,28,29,31,32,34,35,36,38,39,41,42,43,46,47,48,50,51,53,54,55,57,58,60,61,62,64,65,67,68,69,71,72,74,75,76,78,79,81,82,83,86,87,88,90,91,93,94,95,102,103,104,105,108,115,116,117,120,127,128,129,132,139,140,141,144,151,152,153,156,163,164,165,168,170,171,173,174,175,178,179,180,183,184,185,188,189,190,193,194,195,198,199,200,203,204,205,207,208,210,211,212,214,215,217,218,219,221,222,224,225,226,228,229,231,232,233,236,237,238,240,241,243,244,245,248,249,250,252,253,255,256,257,259,260,262,263,264,267,268,269,272,273,274,277,278,279,281,282,284,285,286,289,290,291,293,294,296,297,298,301,302,303,305,306,308,309,310,312,313,315,316,317,320,321,322,324,325,327,328] (fun _=>by kernel_rfl))) 20000:=by
 intro w;kernel_rfl
end
abbrev Fg:=PySem.W.Frag
def a8:=@List.getElem?_eq_getElem
def a9:=@Nat.le_refl
def ae:=@List.length_append
def af:=@Bool.and_eq_true
def ag:=@List.getElem?_eq_some_iff
def ah:=@congrArg
def ai:=@Eq.trans
def ar:=@decide_eq_false
def av:=@if_pos
def aw:=@List.size_toArray
def ax:=@PySem.wpAny_bind
def ay:=@decide_eq_true
def aE:=@List.length_singleton
def aI:=@PySem.Heap.get?_push_of_some
def aJ:=@List.length_map
def aK:=@List.mem_singleton
def aL:=@List.length_cons
def aM:=@List.all_eq_true
def aN:=@List.getElem?_append_right
def aO:=@if_neg
def aP:=@Option.map_eq_some_iff
def aQ:=@List.mem_cons_of_mem
def aR:=@List.length_take
def aS:=@PySem.wpAny_pure
def aT:=@PySem.Heap.lt_size
def aU:=@Bool.false_ne_true
def aV:=@List.getElem?_append_left
def aW:=@decide_eq_true_eq
def aX:=@Nat.lt_of_lt_of_le
def aY:=@List.mem_cons_self
def aZ:=@List.mem_cons
def b6:=@List.length_drop
def b9:=@List.getElem_mem
def bb:=@List.mem_append
def bg:=@List.map_cons
def bo:=@PySem.Heap.get?_push_size
def bp:=@List.length_nil
def bq:=@PySem.W.mg_none_of
def br:=@List.mem_append_right
def bA:=@List.nodup_append
def bB:=@List.mem_of_getElem?
def bC:=@List.all_cons
def bD:=@List.mem_map
def bE:=@Nat.le_trans
def bF:=@List.getD_eq_getElem?_getD
def bG:=@List.nil_append
def bH:=@Nat.zero_le
def bI:=@PySem.W.mg_of
def bJ:=@Option.some.inj
def bK:=@Nat.mul_le_mul_right
def bL:=@of_decide_eq_true
def bM:=@Bool.true_and
def bN:=@List.filterMap_cons
def bO:=@PyProof.Rows.slot_tuple_getitem
def bP:=@PySem.wpAny_mono
def bQ:=@beq_eq_false_iff_ne
def bR:=@PySem.W.kia_one
def bS:=@PySem.wpAny_truthy_bool
def bT:=@List.getElem?_map
def bU:=@List.flatten_cons
def bV:=@Nat.ne_of_lt
def bW:=@List.mem_of_mem_take
def bX:=@List.append_nil
def bY:=@PySem.mem_of_lookup
def bZ:=@List.replicate_succ
def c8:=@List.length_range
def c9:=@List.getElem?_of_mem
def cb:=@List.getElem?_set_self
def cf:=@List.take_of_length_le
def cA:=@List.drop_eq_nil_of_le
def cB:=@List.mem_range
def cC:=@Bool.or_eq_true
def cD:=@List.pairwise_iff_getElem
def cE:=@List.not_mem_nil
def cF:=@Bool.and_true
def cG:=@decide_eq_decide
def cH:=@Nat.lt_irrefl
def cI:=@PySem.F.slot_int_rmul
def cJ:=@List.map_append
def cK:=@Bool.false_eq_true
def cL:=@List.getElem?_set_ne
def cM:=@PySem.wpAny_binaryOp_repeat_ref
def cN:=@PySem.call_meets
def cO:=@List.mem_of_mem_drop
def cP:=@Bool.and_false
def cQ:=@List.map_map
def cR:=@Array.length_toList
def cT:=@List.nodup_cons
def cU:=@Bool.eq_iff_iff
def cV:=@beq_self_eq_true
def cW:=@PySem.wpAny_holding
def cX:=@List.mem_filterMap
def cY:=@List.map_nil
def cZ:=@List.all_nil
def da:=@Int.emod_lt_of_pos
def de:=@List.drop_eq_getElem_cons
def dA:=@PySem.wpAny_passesOwn
def dB:=@PySem.wpAny_newObj_type
def dC:=@List.foldl_cons
def dD:=@not_true_eq_false
def dE:=@List.map_id'
def dF:=@List.getElem?_replicate
def dG:=@List.length_eq_zero_iff
def dH:=@List.cons_append
def dI:=@Bool.false_and
def dJ:=@PySem.typeIs_int
def dM:=@List.nodup_nil
def dO:=@PySem.wpAny_Call_Name_kw
def dP:=@PySem.wpAny_execs_nil
def dQ:=@List.length_replicate
def dR:=@List.length_set
def dS:=@Nat.succ_mul
def dU:=@List.all_map
def dW:=@PySem.F.called_set
def dX:=@Int.emod_nonneg
def dY:=@PySem.wpAny_standAt
def dZ:=@List.append_assoc
def e7:=@PySem.F.args_int_rmul_2
def e8:=@Bool.not_eq_true'
def e9:=@List.mem_append_left
def ef:=@if_true
def eh:=@PySem.F.slot_int_index
def ei:=@PySem.F.entry_int_rmul
def eA:=@PySem.F.slot_tuple_mul
def eB:=@List.mem_flatten
def eC:=@Nat.mul_comm
def eD:=@Ne.symm
def eE:=@Bool.or_false
def eF:=@PySem.F.fills_int_mul
def eG:=@PySem.AutoListH.list___mul___list_int_3
def eH:=@List.getElem?_cons_zero
def eI:=@PyProof.Rows.F.plain_set_update_loop
def eJ:=@List.getElem?_take
def eK:=@Int.eq_ofNat_of_zero_le
def eL:=@List.sum_cons
def eM:=@PySem.Heap.get?_update_other
def eN:=@Int.toNat_natCast
def eO:=@PySem.Str.length_append
def eP:=@if_false
def eQ:=@PySem.Heap.size_push
def eR:=@PySem.codeAny_mono
def eS:=@Nat.add_comm
def eT:=@List.filterMap_append
def eU:=@List.singleton_append
def eV:=@Nat.zero_add
def eW:=@List.take_append_drop
def eX:=@PySem.Around.in1_units
def eY:=@PySem.Calls.evalArgs_plain
def eZ:=@PySem.codeAny_call_builtin
def ff:=@or_false
def fg:=@Bool.false_or
def fh:=@beq_iff_eq
def fk:=@PyProof.Rows.callWith_type1
def fq:=@List.mem_map_of_mem
def fv:=@PySem.codeAny_builtin
def fw:=@List.map_eq_nil_iff
def fz:=@PySem.F.attrBase_ValueError
def fA:=@eq_false_of_ne_true
def fB:=@Int.fdiv_eq_ediv_of_nonneg
def fD:=@PySem.F.excBase_ValueError
def fE:=@PySem.F.args_tuple_mul_2
def fF:=@decide_false
def fG:=@List.mem_replicate
def fH:=@List.take_zero
def fI:=@List.mem_take_iff_getElem
def fJ:=@PySem.W.kitx_dict
def fK:=@Option.isSome_iff_exists
def fL:=@PySem.F.args_tuple_add_2
def fM:=@PySem.StrLaws.found_one
def fN:=@PySem.F.entry_tuple_mul
def fO:=@PySem.sizeLine_eq
def fP:=@PySem.F.entry_tuple_add
def fQ:=@List.any_cons
def fR:=@decide_true
def fS:=@decide_eq_false_iff_not
def fT:=@PySem.wpAny_execs_cons
def fU:=@PySem.noFill_tuple_add
def fV:=@List.lookup_cons
def fW:=@List.of_mem_zip
def fX:=@PySem.seqIndex_neg
def fY:=@Nat.succ.inj
def fZ:=@Int.natCast_mul
def g7:=@Nat.pow_succ
def g9:=@Option.map_some
def gp:=@List.drop_zero
def gu:=@PySem.seqIndex_of
def gv:=@Nat.mod_mul
def gy:=@Nat.add_assoc
open PySem PySem.Spec
namespace L2
open PyProof.Rows
abbrev Key:=Sum Int Str
noncomputable def ar5:Key->Value->Bool
 |.inl k,v=>Value.isInt k v
 |.inr x,v=>Value.isStrOf x v
noncomputable def b05(w:World):Key->Int
 |.inl k=>hashInt k
 |.inr x=>hashStr w x
theorem nu:∀{k:Key} {v:Value},ar5 k v=true->(∃i t,k=Sum.inl i/\v=Value.int i t)\/(∃x t,k=Sum.inr x/\v=Value.str x t)
 |.inl i,v,h=>by
  obtain⟨t,e⟩:=Value.isInt_shape (k:=i) (v:=v) h;exact .inl ⟨i,t,rfl,e⟩
 |.inr x,v,h=>by
  obtain⟨t,e⟩:=Value.isStrOf_shape (x:=x) (v:=v) h;exact .inr ⟨x,t,rfl,e⟩
theorem ar6(a b:Int):decide ((Sum.inl a:Key)=Sum.inl b)=(a == b):=by
 by_cases e:a=b
 .subst e;simp
 .have h:¬ (Sum.inl a:Key)=Sum.inl b:=λq=>e (Sum.inl.inj q);rw[ar h];exact(bQ.mpr e).symm
theorem ar7(a b:Str):decide ((Sum.inr a:Key)=Sum.inr b)=decide (a=b):=by
 by_cases e:a=b
 .subst e;simp
 .have h:¬ (Sum.inr a:Key)=Sum.inr b:=λq=>e (Sum.inr.inj q);rw[ar h,ar e]
theorem ar8(a:Int)(b:Str):decide ((Sum.inl a:Key)=Sum.inr b)=false:=ar (λq=>nomatch q)
theorem ar9(a:Str)(b:Int):decide ((Sum.inr a:Key)=Sum.inl b)=false:=ar (λq=>nomatch q)
noncomputable def a5h(prog:Program)(w:World):PySem.KeyKind prog w Key where
 is:=ar5
 hash:=b05 w
 inj:=λv a b ha hb=>by
  rcases nu ha with⟨i,t,rfl,rfl⟩|⟨x,t,rfl,rfl⟩
  .rcases nu hb with⟨j,u,rfl,e⟩|⟨y,u,rfl,e⟩
   .injection e with e1 _;rw[e1]
   .exact nomatch e
  .rcases nu hb with⟨j,u,rfl,e⟩|⟨y,u,rfl,e⟩
   .exact nomatch e
   .injection e with e1 _;rw[e1]
 byValue:=λk v h=>by
  rcases nu h with⟨i,t,rfl,rfl⟩|⟨x,t,rfl,rfl⟩<;>rfl
 pyHash:=λhv h=>by
  rcases nu hv with⟨i,t,rfl,rfl⟩|⟨x,t,rfl,rfl⟩
  .exact wpAny_pyHash_int h
  .exact wpAny_pyHash_str h
 eqBool:=λhu hv h=>by
  rcases nu hu with⟨i,t,rfl,rfl⟩|⟨x,t,rfl,rfl⟩
  .rcases nu hv with⟨j,u,rfl,rfl⟩|⟨y,u,rfl,rfl⟩
   .rw[ar6]at h;exact wpAny_eqBool_int h
   .rw[ar8]at h;exact SeqAt.EqAt.int_str i t y u _ _ _ _ h
  .rcases nu hv with⟨j,u,rfl,rfl⟩|⟨y,u,rfl,rfl⟩
   .rw[ar9]at h;exact SeqAt.EqAt.str_int x t j u _ _ _ _ h
   .rw[ar7]at h;exact wpAny_eqBool_str h
 «strs»:=λk x t v h=>by
  rcases nu h with⟨i,u,rfl,e⟩|⟨y,u,rfl,e⟩
  .exact nomatch e
  .injection e with e1 _
   subst e1
   cases v<;>rfl
inductive V where
 |non|bl (b:Bool)|int (i:Int)|str (x:Str)|byt (b:Array UInt8)|flt (b:UInt64)|ref (a:Addr)|ty (n:String)
 deriving DecidableEq
def RelV:V->Value->Prop
 |.non,u=>u=Value.none
 |.bl b,u=>u=Value.bool b
 |.int i,u=>∃t,u=Value.int i t
 |.str x,u=>∃t,u=Value.str x t
 |.byt b,u=>∃t,u=Value.bytes b t
 |.flt b,u=>∃t,u=Value.float b t
 |.ref a,u=>u=Value.ref a
 |.ty n,u=>u=Value.type n
abbrev Vals:List V->List Value->Prop:=Paired RelV
theorem Vals.length(r:Vals xs us):xs.length=us.length:=Paired.length r
theorem Vals.get:∀{xs:List V} {us:List Value} {i:Nat} {x:V},Vals xs us->xs[i]? = some x->∃u,us[i]? = some u/\RelV x u
 |_,_,_,_,.nil,e=>by simp at e
 |_,_,0,_,.cons r _,e=>by simp at e;subst e;exact⟨_,rfl,r⟩
 |_,_,i+1,x,.cons _ t,e=>by
  obtain⟨u,h1,h2⟩:=Vals.get (i:=i) (x:=x) t (by simpa using e)
  exact⟨u,by simpa using h1,h2⟩
theorem Vals.set(r:RelV x u):∀{xs:List V} {us:List Value} (i:Nat),Vals xs us->Vals (xs.set i x) (us.set i u)
 |_,_,_,.nil=>.nil
 |_,_,0,.cons _ t=>.cons r t
 |_,_,i+1,.cons q t=>.cons q (Vals.set r i t)
theorem Vals.append:∀{xs ys:List V} {us ws:List Value},Vals xs us->Vals ys ws->Vals (xs++ys) (us++ws)
 |_,_,_,_,.nil,s=>s
 |_,_,_,_,.cons r t,s=>.cons r (Vals.append t s)
theorem Vals.take:∀{xs:List V} {us:List Value} (n:Nat),Vals xs us->Vals (xs.take n) (us.take n)
 |_,_,0,_=>.nil
 |_,_,_+1,.nil=>.nil
 |_,_,n+1,.cons r t=>.cons r (Vals.take n t)
theorem Vals.drop:∀{xs:List V} {us:List Value} (n:Nat),Vals xs us->Vals (xs.drop n) (us.drop n)
 |_,_,0,r=>r
 |_,_,_+1,.nil=>.nil
 |_,_,n+1,.cons _ t=>Vals.drop n t
def ax8:Option V->Option Value->Prop
 |some v,some u=>RelV v u
 |none,none=>True
 |_,_=>False
def KV{κ:Type}:List (κ×V)->List (κ×Value)->Prop:=Paired λ(p:κ×V) (q:κ×Value)=>p.1=q.1/\RelV p.2 q.2
noncomputable def kV:Key->V
 |.inl i=>.int i
 |.inr x=>.str x
def TupD(h:Heap)(a:Addr)(aC:Array Value):Prop:=∃o,h.get? a=some o/\(o.cls=.type "tuple"/\o.dict=none)/\∃n,o.data=.seq aC n
theorem TupD.r{h:Heap}{a:Addr}{i:Array Value}(x:TupD h a i):IsTup h a i:=let ⟨o,e,c,d⟩:=x; ⟨o,e,c.1,d⟩
theorem TupD.new(h:Heap)(i:Array Value):TupD (h.push {cls:=.type "tuple",data:=.seq i}) h.objs.size i:=⟨_,bo _ rfl,⟨rfl,rfl⟩,_,rfl⟩
inductive HO where
 |lst (xs:List V)
 |tup (xs:List V)
 |dK (kvs:List (Key×V))|dT (kvs:List (List Key×V))
 |set (S:Int->Bool) (n:Nat)
 |ins (C dx:Addr) (fs:List (Str×V))
 |own (x:Addr)
 |xd (fs:List (Str×V))
 |met (f x:Addr)
 |rng (lo hi:Int)
 |frz (o:Obj) (u:HO)
 |tbl (ps:Array Value)
 |ext (φ:Heap->Prop)
abbrev Hp:=Addr->Option HO
noncomputable def upd(H:Hp)(a:Addr)(o:HO):Hp:=λb=>if b=a then some o else H b
theorem qe:upd H a o a=some o:=by unfold upd;rw[av rfl]
theorem jk(h:b≠a):upd H a o b=H b:=by unfold upd;rw[aO h]
theorem iw{H:Hp}{a b:Addr}{o:HO}(h:H a=some o)(h':H b=none):a≠b:=by
 intro e;subst e;rw[h]at h';cases h'
section
variable(P:Program)(w:World)
def ObjOk(H:Hp)(h:Heap)(a:Addr):HO->Prop
 |.lst xs=>xs.length<=sizeLine/\∃(its:List Value) (n:Nat),Vals xs its/\h.get? a=some {cls:=.type "list",data:=.seq its.toArray n}
 |.tup xs=>xs.length<=sizeLine/\∃its:List Value,Vals xs its/\TupD h a its.toArray
 |.dK kvs=>kvs.length<=sizeLine/\(a == sysModules)=false/\∃vs,KV kvs vs/\h.DictOf (a5h P w) a vs
 | .dT kvs=>kvs.length<=sizeLine/\(a == sysModules)=false/\∃xs:List (List Key×Addr×Value),
   Paired (λ(p:List Key×V) (q:List Key×Addr×Value)=>p.1=q.1/\H q.2.1=some (.tup (p.1.map kV))/\RelV p.2 q.2.2) kvs xs /\
   ∃o es ep,h.get? a=some o/\o.ExactDict/\o.data=.dict es ep/\es.toList=xs.map (entryOfKey (tupleKind (a5h P w)))/\(xs.map (·.1)).Nodup
 |.set S n=>h.SetOf (intKind P w) a S n
 | .ins C dx fs=>H dx=some (.own a)/\fs.length<=1000/\dx≠a/\h.get? a=some (PySem.W.instObj C dx) /\
   ∃mA,h.Ns1 dx mA/\(∀f,ax8 (fs.lookup f) (mA f))/\PySem.Within mA (fs.map (·.1))
 |.own _=>∃o,h.get? a=some o
 |.xd fs=>∃mA,h.Ns1 a mA/\∀f,ax8 (fs.lookup f) (mA f)
 |.rng lo hi=>∃t u v,h.get? a=some {cls:=.type "range",data:=.fields #[.int lo t,.int hi u,.int 1 v]}
 |.frz o u=>h.get? a=some o/\ObjOk H h a u
 |.tbl ps=>h.get? a=some {cls:=.none,data:=.fields ps}
 |.met f x=>h.get? a=some (PySem.W.methodObj (.ref f) (.ref x))
 |.ext φ=>φ h/\(∃o,h.get? a=some o)/\∀h1 h2:Heap,φ h1->(∀o,h1.get? a=some o->h2.get? a=some o)->φ h2
def HOk(H:Hp)(h:Heap):Prop:=∀a o,H a=some o->ObjOk P w H h a o
end
section
variable{P:Program}{w:World}{H H':Hp}{h h':Heap}{a:Addr}{o:HO}
theorem ObjOk.lt(x:ObjOk P w H h a o):a<h.objs.size:=by
 cases o with
 |lst xs=>obtain⟨_,_,_,_,e⟩:=x;exact aT e
 |tup xs=>obtain⟨_,_,_,p⟩:=x;exact p.r.lt
 |dK kvs=>obtain⟨_,_,_,_,o,_,_,e,_⟩:=x;exact aT e
 |dT kvs=>obtain⟨_,_,_,_,o,_,_,e,_⟩:=x;exact aT e
 |set S n=>obtain⟨o,_,_,_,e,_⟩:=x;exact aT e
 |ins C dx fs=>obtain⟨_,_,_,e,_⟩:=x;exact aT e
 |own y=>obtain⟨_,e⟩:=x;exact aT e
 |xd fs=>obtain⟨_,⟨_,_,_,e,_⟩,_⟩:=x;exact aT e
 |rng lo hi=>obtain⟨_,_,_,e⟩:=x;exact aT e
 |frz ob u=>obtain⟨e,_⟩:=x;exact aT e
 |tbl ps=>exact aT (show h.get? a=some _ from x)
 |met f y=>exact aT (show h.get? a=some _ from x)
 |ext φ=>obtain⟨_,⟨_,e⟩,_⟩:=x;exact aT e
theorem Paired.mapP{α β:Type}{F G:α->β->Prop}:∀{l₁:List α} {l₂:List β},Paired F l₁ l₂->(∀a b,F a b->G a b)->Paired G l₁ l₂
 |_,_,.nil,_=>.nil
 |_,_,.cons r t,f=>.cons (f _ _ r) (Paired.mapP t f)
theorem ObjOk.stay(x:ObjOk P w H h a o)(k:∀b u,(b=a\/H b=some (.own a))->h.get? b=some u->h'.get? b=some u)
  (ho:∀b,H b=some (.own a)->H' b=some (.own a)) (ht:∀b xs,H b=some (.tup xs)->H' b=some (.tup xs)):ObjOk P w H' h' a o:=by
 induction o with
 |lst xs=>obtain⟨z,its,n,r,e⟩:=x;exact⟨z,its,n,r,k _ _ (.inl rfl) e⟩
 |tup xs=>obtain⟨z,its,r,ob,e,c⟩:=x;exact⟨z,its,r,ob,k _ _ (.inl rfl) e,c⟩
 |dK kvs=>obtain⟨z,y,vs,r,ob,es,ep,e,c⟩:=x;exact⟨z,y,vs,r,ob,es,ep,k _ _ (.inl rfl) e,c⟩
 |dT kvs =>
  obtain⟨z,y,xs,r,ob,es,ep,e,c⟩:=x;exact⟨z,y,xs,Paired.mapP r λp q z=>⟨z.1,ht _ _ z.2.1,z.2.2⟩,ob,es,ep,k _ _ (.inl rfl) e,c⟩
 |set S n=>obtain⟨ob,es,ep,t,e,c⟩:=x;exact⟨ob,es,ep,t,k _ _ (.inl rfl) e,c⟩
 |ins C dx fs =>
  obtain⟨d,z,ne,e,mA,⟨od,es,ep,e2,c⟩,r⟩:=x;exact⟨ho _ d,z,ne,k _ _ (.inl rfl) e,mA,⟨od,es,ep,k _ _ (.inr d) e2,c⟩,r⟩
 |own y=>obtain⟨ob,e⟩:=x;exact⟨ob,k _ _ (.inl rfl) e⟩
 |xd fs=>obtain⟨mA,⟨od,es,ep,e,c⟩,r⟩:=x;exact⟨mA,⟨od,es,ep,k _ _ (.inl rfl) e,c⟩,r⟩
 |rng lo hi=>obtain⟨t,u,v,e⟩:=x;exact⟨t,u,v,k _ _ (.inl rfl) e⟩
 |frz ob u ih=>obtain⟨e,q⟩:=x;exact⟨k _ _ (.inl rfl) e,ih q⟩
 |tbl ps =>
  have e:h.get? a=some {cls:=.none,data:=.fields ps}:=x;show h'.get? a=some {cls:=.none,data:=.fields ps};exact k a _ (.inl rfl) e
 |met f y =>
  have e:h.get? a=some (PySem.W.methodObj (.ref f) (.ref y)):=x;show h'.get? a=some (PySem.W.methodObj (.ref f) (.ref y));exact k a _ (.inl rfl) e
 |ext φ=>obtain⟨p,⟨o,e⟩,st⟩:=x;exact⟨st _ _ p λo q=>k _ _ (.inl rfl) q,⟨o,k _ _ (.inl rfl) e⟩,st⟩
theorem HOk.lt(x:HOk P w H h)(e:H a=some o):a<h.objs.size:=(x a o e).lt
theorem HOk.fresh(x:HOk P w H h)(e:h.objs.size<=a):H a=none:=by
 cases q:H a with
 |none=>rfl
 |some u=>exact absurd (aX (x.lt q) e) (cH _)
theorem HOk.kept(x:HOk P w H h)(k:∀b u,h.get? b=some u->h'.get? b=some u):HOk P w H h':=λa o e =>
 (x a o e).stay (λb u _ q=>k b u q) (λ_ q=>q) λ_ _ q=>q
theorem HOk.laid(x:HOk P w H h)(k:∀b u,h.get? b=some u->h'.get? b=some u)(hp:h.objs.size<=a)(new:ObjOk P w (upd H a o) h' a o):HOk P w (upd H a o) h':=λb u e=>by
 have hn:=x.fresh hp
 by_cases hb:b=a
 .subst hb;rw[qe]at e;cases e;exact new
 .rw[jk hb]at e;exact(x b u e).stay (λc v _ q=>k c v q) (λc q=>by rw[jk (iw q hn)];exact q) λc xs q=>by rw[jk (iw q hn)];exact q
end
def Rd(H:Hp)(a:Addr)(u:HO):Prop:=H a=some u\/∃o,H a=some (.frz o u)
theorem Rd.of(h:H a=some u):Rd H a u:=.inl h
theorem Rd.ok(r:Rd H a u)(x:HOk P w H h):ObjOk P w H h a u:=by
 rcases r with r|⟨o,r⟩
 .exact x a u r
 .obtain⟨_,q⟩:=x a _ r;exact q
def Mut:Option HO->Prop
 |some (.lst _)=>True
 |some (.dK _)=>True
 |some (.dT _)=>True
 |some (.set _ _)=>True
 |some (.ins _ _ _)=>True
 |some (.ext _)=>True
 |_=>False
section
variable{P:Program}{w:World}{H:Hp}{h h':Heap}{x e:Addr}{o':HO}
theorem HOk.write(ok:HOk P w H h)(mu:Mut (H x))(he:e=x\/H e=some (.own x))(k:∀b u,b≠e->h.get? b=some u->h'.get? b=some u)(heo:∃u,h'.get? e=some u)
  (new:ObjOk P w (upd H x o') h' x o'):HOk P w (upd H x o') h':=λb u q=>by
 have nown:∀c y,H c=some (.own y)->c≠x:=λc y r z=>by subst z;rw[r]at mu;exact mu
 have ntup:∀c xs,H c=some (.tup xs)->c≠x:=λc xs r z=>by subst z;rw[r]at mu;exact mu
 by_cases hb:b=x
 .subst hb;rw[qe]at q;cases q;exact new
 .rw[jk hb]at q
  by_cases hbe:b=e
  .have q':H b=some (.own x):=by
    rcases he with z|z
    .exact absurd (hbe.trans z) hb
    .rw[hbe];exact z
   rw[q]at q';cases q'
   obtain⟨v,hv⟩:=heo;exact⟨v,by rw[hbe];exact hv⟩
  .refine(ok b u q).stay (λc v hc r=>k c v ?_ r) (λc r=>by rw[jk (nown c b r)];exact r) λc xs r=>by rw[jk (ntup c xs r)];exact r
   rcases hc with rfl|hc
   .exact hbe
   .rintro rfl
    rcases he with z|z
    .exact nown c b hc z
    .rw[hc]at z;cases z;exact hb rfl
end
structure Un (fs ex:List Addr) (H H':Hp) (h h':Heap):Prop where
 keep:∀b o,h.get? b=some o->H b=none->b∉fs->b∉ex->h'.get? b=some o
 slot:∀b o,h.get? b=some o->H b=none->b∈fs->b∉ex->∃sl,h'.get? b=some {o with slots:=sl}
 free:∀b o,h.get? b=some o->H b=none->b∉ex->H' b=none
 there:∀b o,h.get? b=some o->b∉ex->∃o',h'.get? b=some o'
 tups:∀b xs,H b=some (.tup xs)->H' b=some (.tup xs)
 frzs:∀b o u,H b=some (.frz o u)->H' b=some (.frz o u)
 tbls:∀b ps,H b=some (.tbl ps)->∃more,H' b=some (.tbl (ps++more))
section
variable{fs fs' ex ex':List Addr}{H H1 H2:Hp}{h h1 h2 h':Heap}{a x e:Addr}{o:HO}
theorem Un.any(u:Un fs ex H H1 h h1)(q:h.get? b=some ob)(n:H b=none)(hx:b∉ex):∃sl,h1.get? b=some {ob with slots:=sl}:=by
 by_cases hb:b∈fs
 .exact u.slot b ob q n hb hx
 .exact⟨ob.slots,u.keep b ob q n hb hx⟩
theorem Un.kept(k:∀b u,h.get? b=some u->h'.get? b=some u):Un fs ex H H h h' :=
 ⟨λb ob q _ _ _=>k b ob q,λb ob q _ _ _=>⟨ob.slots,k b ob q⟩,λ_ _ _ n _=>n,λb ob q _=>⟨ob,k b ob q⟩,λ_ _ q=>q,λ_ _ _ q=>q,λ_ ps q=>⟨#[],by rw[q];simp⟩⟩
theorem Un.refl:Un fs ex H H h h:=Un.kept λ_ _ q=>q
theorem Un.laid(k:∀b u,h.get? b=some u->h'.get? b=some u)(hp:h.objs.size<=a)(hn:H a=none):Un fs ex H (upd H a o) h h' where
 keep:=λb u q _ _ _=>k b u q
 slot:=λb u q _ _ _=>⟨u.slots,k b u q⟩
 free:=λb u q n _=>by rw[jk (bV (aX (aT q) hp))];exact n
 there:=λb u q _=>⟨u,k b u q⟩
 tups:=λb xs q=>by rw[jk (iw q hn)];exact q
 frzs:=λb u xs q=>by rw[jk (iw q hn)];exact q
 tbls:=λb ps q=>⟨#[],by rw[jk (iw q hn),q];simp⟩
theorem Un.write(mu:Mut (H x))(he:e=x\/H e=some (.own x))(k:∀b u,b≠e->h.get? b=some u->h'.get? b=some u)(heo:∃u,h'.get? e=some u):Un fs ex H (upd H x o) h h':=by
 have hx:∀b,H b=none->b≠x:=λb n z=>by subst z;rw[n]at mu;exact mu
 have hb:∀b,H b=none->b≠e:=λb n z=>by
  subst z
  rcases he with r|r
  .exact hx b n r
  .rw[n]at r;cases r
 have hm:∀b u,H b=some u->¬ Mut (some u)->b≠x:=λb u q nm z=>by subst z;rw[q]at mu;exact nm mu
 refine⟨λb u q n _ _=>k b u (hb b n) q,λb u q n _ _=>⟨u.slots,k b u (hb b n) q⟩,λb u q n _=>by rw[jk (hx b n)];exact n,λb u q _=>?_,
  λb xs q=>by rw[jk (hm b _ q λz=>z)];exact q,λb u xs q=>by rw[jk (hm b _ q λz=>z)];exact q,λb ps q=>⟨#[],by rw[jk (hm b _ q λz=>z),q];simp⟩⟩
 by_cases hbe:b=e
 .subst hbe;exact heo
 .exact⟨u,k b u hbe q⟩
end
noncomputable def trk(h:Heap)(H:Hp):List Addr:=(List.range h.objs.size).filter λa=>(H a).isSome
noncomputable def aif(h:Heap)(H:Hp):Heap:=PySem.W.hideAll h (trk h H)
theorem aeh(h:Heap)(H:Hp):(aif h H).objs.size=h.objs.size:=PySem.W.hideAll_size _ _
theorem aig{h:Heap}(e:h.get? b=some o)(n:H b=none):(aif h H).get? b=some o :=
 PySem.W.hideAll_get _ e λhm=>by
  have q:(H b).isSome=true:=(List.mem_filter.mp hm).2;rw[n]at q;simp at q
theorem anm(e:(aif h H).get? b=some o):h.get? b=some o/\H b=none:=by
 have e':h.get? b=some o:=PySem.W.of_hideAll (trk h H) e;refine⟨e',?_⟩
 cases q:H b with
 |none=>rfl
 |some x =>
  have hm:b∈trk h H:=List.mem_filter.mpr ⟨cB.mpr (aT e'),by simp[q]⟩
  have z:(aif h H).get? b=none:=PySem.W.hideAll_none (trk h H) hm;rw[z]at e;cases e
noncomputable def ano(g h:Heap)(L:Addr):List (Addr×Obj):=(List.range h.objs.size).filterMap λa=>if a=L\/(g.get? a).isSome=true then none else (h.get? a).map λo=>(a,o)
noncomputable def aG(g h:Heap)(L d:Addr):List (Addr×Obj):=(ano g h L).filter λp=>decide (p.1≠d)
structure Mod (K:Fg) (mg:Str->Option Value) (base:Heap):Prop where
 kin:K.In base
 glob:base.Ns mainGlobals mg
 blt:∃mb,base.Ns builtinsNs mb/\∀x:Str,x ≠ "__name__"->mb x=bootBuiltins x
 nolimit:base.NoLimit
structure Cx where
 prog:Program
 w:World
 K:Fg
 mg:Str->Option Value
 base:Heap
 A:Around
 N:List Str
 s₀:Shared
 H₀:Hp
 env:Env
 outer:List Env
 stack:List Env
 ex:List Addr
 fn:Str->Bool
 calm:Bool
 pn:List (Addr×Obj)
 xe:Value->Shared->Prop
noncomputable def frs(l:List Env):List Addr:=l.filterMap (·.frame)
abbrev Cx.fs(X:Cx):List Addr:=frs X.outer
def Vis(sc:Scope)(x:Str):Prop:=sc.names.lookup x=some .local\/sc.names.lookup x=some .cell\/sc.names.lookup x=some .free
def Loc(sc:Scope)(x:Str):Prop:=sc.names.lookup x=some .local\/sc.names.lookup x=some .cell
def Look(env:Env)(h:Heap)(m:Str->Option Value)(x:Str)(u:Value):Prop :=
 (env.kindOf x=some .local/\m x=some u)\/((env.kindOf x=some .cell\/env.kindOf x=some .free)/\∃c,env.cells.lookup x=some c/\h.IsCell c (some u))
structure Cx.Ok (X:Cx):Prop where
 mod:Mod X.K X.mg X.base
 kind:X.env.scope.kind=.function
 glob:X.env.globals=mainGlobals
 blt:X.env.builtins=builtinsNs
 above:X.s₀.heap.objs.size<=X.env.locals
 inj:∀x y c,X.env.cells.lookup x=some c->X.env.cells.lookup y=some c->x=y
 has:∀x,(X.env.kindOf x=some .cell\/X.env.kindOf x=some .free)->∃c,X.env.cells.lookup x=some c
 cab:∀x c,X.fn x=true->X.env.cells.lookup x=some c->X.s₀.heap.objs.size<=c
 hd:X.calm=true->X.A.handled=none
 frames:X.A.frames=some X.stack
 stk:X.stack=X.outer\/(X.stack=X.env::X.outer/\X.env.frame=some X.env.locals)
 exf:∀b∈X.ex,b≠X.env.locals/\∀x c,X.env.cells.lookup x=some c->c≠b
 bs:∀b o,X.base.get? b=some o->X.s₀.heap.get? b=some o/\X.H₀ b=none
 bsz:X.base.objs.size<=X.s₀.heap.objs.size
 noex:∀b o,X.base.get? b=some o->b∉X.ex
 exfs:∀b∈X.ex,b∉X.fs
 funs:X.s₀.heap.FunFrames X.base X.outer
 frf:∀b∈X.fs,X.H₀ b=none
structure Inv (X:Cx) (aA:List (Addr×Obj)) (σ:List (Option V)) (H:Hp) (s:Shared):Prop where
 ok:X.Ok
 os:s.os=X.s₀.os
 bare:AllBare s.gens
 base:Un X.fs X.ex X.H₀ H X.s₀.heap s.heap
 loc:∃m,s.heap.Ns X.env.locals m/\∀(i:Nat) (x:Str) (v:V),X.N[i]? = some x->σ[i]? = some (some v)->Vis X.env.scope x->∃u,RelV v u/\Look X.env s.heap m x u
 cell:∀x c,X.env.cells.lookup x=some c->∃v,s.heap.IsCell c v
 free:H X.env.locals=none
 freeC:∀x c,X.env.cells.lookup x=some c->H c=none
 pin:∀p∈X.pn++aA,s.heap.get? p.1=some p.2/\H p.1=none/\p.1≠X.env.locals/\p.1∉X.fs/\∀v,p.2.data≠.cell v
 hok:HOk X.prog X.w H s.heap
 len:σ.length=X.N.length
section
variable{X:Cx}{aA:List (Addr×Obj)}{σ:List (Option V)}{H H':Hp}{s:Shared}{h':Heap}
theorem Cx.Ok.nofr(ok:X.Ok)(e:X.base.get? b=some o):b∉X.fs:=λhb=>by
 have:=(ok.funs.mem hb).1
 rw[e]at this;cases this
theorem Inv.bs(I:Inv X aA σ H s):∀b o,X.base.get? b=some o->s.heap.get? b=some o/\H b=none:=λb o e =>
 ⟨I.base.keep b o (I.ok.bs b o e).1 (I.ok.bs b o e).2 (I.ok.nofr e) (I.ok.noex b o e),I.base.free b o (I.ok.bs b o e).1 (I.ok.bs b o e).2 (I.ok.noex b o e)⟩
theorem Inv.bk(I:Inv X aA σ H s):∀b o,X.base.get? b=some o->s.heap.get? b=some o:=λb o e=>(I.bs b o e).1
theorem Inv.mod(I:Inv X aA σ H s):Mod X.K X.mg X.base:=I.ok.mod
theorem Inv.kIn(I:Inv X aA σ H s):X.K.In s.heap:=I.ok.mod.kin.keeps I.bk
theorem Inv.lt(I:Inv X aA σ H s):X.env.locals<s.heap.objs.size:=let ⟨_,hn,_⟩:=I.loc;hn.lt
theorem Inv.sz(I:Inv X aA σ H s):X.s₀.heap.objs.size<=s.heap.objs.size:=bE I.ok.above (Nat.le_of_lt I.lt)
theorem Inv.nofs(I:Inv X aA σ H s)(h:s.heap.objs.size<=a):a∉X.fs:=λhb=>by
 obtain⟨_,o,ho,_⟩:=I.ok.funs.mem hb;exact absurd (aX (aT ho) (bE I.sz h)) (cH _)
theorem Inv.cne(I:Inv X aA σ H s):∀x c,X.env.cells.lookup x=some c->c≠X.env.locals:=λx c e z=>by
 obtain⟨v,o,ho,hd⟩:=I.cell x c e;obtain⟨m,⟨o',es,ep,ho',hd',_⟩,_⟩:=I.loc;rw[z,ho']at ho;cases ho;rw[hd']at hd;cases hd
theorem Inv.funs(I:Inv X aA σ H s):s.heap.FunFrames X.base X.outer:=by
 have all:∀(l:List Env),(∀b∈frs l,b∈X.fs)->X.s₀.heap.FunFrames X.base l->s.heap.FunFrames X.base l:=by
  intro l
  induction l with
  |nil=>intro _ _;trivial
  |cons env r ih =>
   intro hs hl
   obtain⟨hk,⟨L,o,hf,hn,ho,hd⟩,hr⟩:=hl;have hL:L∈X.fs:=hs L (by unfold frs;rw[bN,hf];exact aY)
   obtain⟨sl,e⟩:=I.base.slot L o ho (I.ok.frf L hL) hL λz=>I.ok.exfs L z hL;exact⟨hk,⟨L,_,hf,hn,e,hd⟩,ih (λb hb=>hs b (by unfold frs;rw[bN,hf];exact aQ _ hb)) hr⟩
 exact all X.outer (λ_ hb=>hb) I.ok.funs
theorem Inv.stack(I:Inv X aA σ H s):s.heap.FunFrames X.base X.stack:=by
 rcases I.ok.stk with e|⟨e,hf⟩
 .rw[e];exact I.funs
 .rw[e];obtain⟨m,hn,_⟩:=I.loc;refine .cons (by rw[I.ok.kind];decide) hf hn ?_ I.funs
  exact Heap.get?_none_of_le (bE I.ok.bsz I.ok.above)
theorem Inv.stkSub(I:Inv X aA σ H s):∀b∈frs X.stack,b∈X.env.locals::X.fs:=λb hb=>by
 rcases I.ok.stk with e|⟨e,hf⟩
 .rw[e]at hb;exact aQ _ hb
 .rw[e]at hb;unfold frs at hb;rw[bN,hf]at hb;exact hb
theorem Inv.stkFree(I:Inv X aA σ H s):∀b∈frs X.stack,H b=none:=λb hb=>by
 rcases aZ.mp (I.stkSub b hb) with e|hb
 .rw[e];exact I.free
 .obtain⟨_,o,ho,_⟩:=I.ok.funs.mem hb;exact I.base.free b o ho (I.ok.frf b hb) λz=>I.ok.exfs b z hb
theorem Inv.step{g':Array GenState}{t':Nat}{d':Drawn}{ch:List Addr}(I:Inv X aA σ H s)
  (hch:∀b∈ch,(b∈X.ex\/X.s₀.heap.objs.size<=b)/\b≠X.env.locals/\(∀x c,X.env.cells.lookup x=some c->c≠b)/\∀p∈X.pn++aA,p.1≠b)
  (keep:∀b o,b≠X.env.locals->b∉X.fs->b∉ch->s.heap.get? b=some o->H b=none->h'.get? b=some o)
  (slot:∀b o,b≠X.env.locals->b∈X.fs->b∉ch->s.heap.get? b=some o->H b=none->∃sl,h'.get? b=some {o with slots:=sl}) (free:∀b o,b∉ch->s.heap.get? b=some o->H b=none->H' b=none)
  (there:∀b o,b∉ch->s.heap.get? b=some o->∃o',h'.get? b=some o')
  (tups:∀b xs,H b=some (.tup xs)->H' b=some (.tup xs)) (frzs:∀b o u,H b=some (.frz o u)->H' b=some (.frz o u)) (tbls:∀b ps,H b=some (.tbl ps)->∃more,H' b=some (.tbl (ps++more)))
  (ns:∀m,s.heap.Ns X.env.locals m->h'.Ns X.env.locals m) (hok:HOk X.prog X.w H' h') (hg:AllBare g') :
  Inv X aA σ H' {s with heap:=h',gens:=g',drawn:=d',toks:=t' }:=by
 have neL:∀b o,X.s₀.heap.get? b=some o->b≠X.env.locals:=λb o e=>bV (aX (aT e) I.ok.above);have neC:∀b o,X.s₀.heap.get? b=some o->b∉X.ex->b∉ch:=λb o e hx hb=>by
  rcases(hch b hb).1 with z|z
  .exact hx z
  .exact absurd (aX (aT e) z) (cH _)
 have cellK:∀x c,X.env.cells.lookup x=some c->∀v,s.heap.IsCell c v->h'.IsCell c v:=λx c e v ⟨o,ho,hd⟩=>by
  have nch:c∉ch:=λz=>(hch c z).2.2.1 x c e rfl
  by_cases hc:c∈X.fs
  .obtain⟨sl,q⟩:=slot c o (I.cne x c e) hc nch ho (I.freeC x c e);exact⟨_,q,hd⟩
  .exact⟨o,keep c o (I.cne x c e) hc nch ho (I.freeC x c e),hd⟩
 refine⟨I.ok,I.os,hg,⟨λb o e n hb hx=>?_,λb o e n hb hx=>?_,λb o e n hx=>?_,λb o e hx=>?_,λb xs e=>tups b xs (I.base.tups b xs e),λb o xs e=>frzs b o xs (I.base.frzs b o xs e),λb ps e=>?_⟩,?_,λx c e=>?_,?_,λx c e=>?_,λp hp=>?_,hok,I.len⟩
 .exact keep b o (neL b o e) hb (neC b o e hx) (I.base.keep b o e n hb hx) (I.base.free b o e n hx)
 .obtain⟨sl,e1⟩:=I.base.slot b o e n hb hx;obtain⟨sl',e2⟩:=slot b _ (neL b o e) hb (neC b o e hx) e1 (I.base.free b o e n hx);exact⟨sl',e2⟩
 .obtain⟨o',e1⟩:=I.base.there b o e hx;exact free b o' (neC b o e hx) e1 (I.base.free b o e n hx)
 .obtain⟨o',e1⟩:=I.base.there b o e hx;exact there b o' (neC b o e hx) e1
 .obtain⟨m1,e1⟩:=I.base.tbls b ps e;obtain⟨m2,e2⟩:=tbls b _ e1;exact⟨m1++m2,by rw[e2,Array.append_assoc]⟩
 .obtain⟨m,hn,hl⟩:=I.loc;refine⟨m,ns m hn,λi x v e1 e2 e3=>?_⟩;obtain⟨u,r,l⟩:=hl i x v e1 e2 e3;refine⟨u,r,?_⟩
  rcases l with l|⟨k,c,e,z⟩
  .exact .inl l
  .exact .inr ⟨k,c,e,cellK x c e _ z⟩
 .obtain⟨v,z⟩:=I.cell x c e;exact⟨v,cellK x c e v z⟩
 .obtain⟨m,⟨o,_,_,ho,_⟩,_⟩:=I.loc;exact free _ o (λz=>(hch _ z).2.1 rfl) ho I.free
 .obtain⟨v,o,ho,hd⟩:=I.cell x c e;exact free c o (λz=>(hch c z).2.2.1 x c e rfl) ho (I.freeC x c e)
 .obtain⟨e,n,ne,nf,d⟩:=I.pin p hp;have nch:p.1∉ch:=λz=>(hch p.1 z).2.2.2 p hp rfl;exact⟨keep p.1 p.2 ne nf nch e n,free p.1 p.2 nch e n,ne,nf,d⟩
theorem Inv.un{t':Nat}(I:Inv X aA σ H s)(u:Un X.fs [] H H' s.heap h')(hok:HOk X.prog X.w H' h'):Inv X aA σ H' {s with heap:=h',toks:=t' }:=by
 obtain⟨m,⟨o,es,ep,ho,r⟩,_⟩:=id I.loc;obtain⟨sl,hL⟩:=u.any ho I.free (by simp)
 exact I.step (g':=s.gens) (d':=s.drawn) (ch:=[]) (λ_ z=>nomatch z) (λb o _ hb _ e n=>u.keep b o e n hb (by simp)) (λb o _ hb _ e n=>u.slot b o e n hb (by simp)) (λb o _ e n=>u.free b o e n (by simp)) (λb o _ e=>u.there b o e (by simp)) u.tups u.frzs u.tbls (λm' hm=>by
  obtain⟨o',es',ep',ho',r'⟩:=hm;rw[ho]at ho';cases ho'
  exact⟨_,es',ep',hL,r'⟩) hok I.bare
theorem Inv.call{g':Array GenState}{t':Nat}{d':Drawn}{ch:List Addr}(I:Inv X aA σ H s)(u:Un (frs X.stack) ch H H' s.heap h')(hok:HOk X.prog X.w H' h')(hg:AllBare g')
  (hch:∀b∈ch,(b∈X.ex\/X.s₀.heap.objs.size<=b)/\b≠X.env.locals/\(∀x c,X.env.cells.lookup x=some c->c≠b)/\∀p∈X.pn++aA,p.1≠b) :
  Inv X aA σ H' {s with heap:=h',gens:=g',drawn:=d',toks:=t' }:=by
 obtain⟨m,⟨o,es,ep,ho,r⟩,_⟩:=id I.loc;obtain⟨sl,hL⟩:=u.any ho I.free λz=>(hch _ z).2.1 rfl;exact I.step (ch:=ch) hch (λb o hL hb hc e n=>u.keep b o e n (λz=>(aZ.mp (I.stkSub b z)).elim hL hb) hc) (λb o _ _ hc e n=>u.any e n hc) (λb o hc e n=>u.free b o e n hc) (λb o hc e=>u.there b o e hc) u.tups u.frzs u.tbls (λm' hm=>by
  obtain⟨o',es',ep',ho',r'⟩:=hm;rw[ho]at ho';cases ho'
  exact⟨_,es',ep',hL,r'⟩) hok hg
theorem Inv.turned{t':Nat}{it:Addr}(I:Inv X aA σ H s)(k:∀b o,b≠it->s.heap.get? b=some o->h'.get? b=some o)(hn:H it=none)(hL:it≠X.env.locals)
  (h1:it∈X.ex\/X.s₀.heap.objs.size<=it) (h2:∀x c,X.env.cells.lookup x=some c->c≠it) (h3:∀p∈X.pn++aA,p.1≠it):Inv X aA σ H {s with heap:=h',toks:=t' }:=by
 have nit:∀b u,H b=some u->b≠it:=λb u e z=>by rw[z,hn]at e;cases e
 refine I.step (g':=s.gens) (d':=s.drawn) (ch:=[it]) (λb hb=>?_) (λb o _ _ hc e _=>k b o (λz=>hc (by simp[z])) e) (λb o _ _ hc e _=>⟨o.slots,k b o (λz=>hc (by simp[z])) e⟩) (λ_ _ _ _ n=>n)
  (λb o hc e=>⟨o,k b o (λz=>hc (by simp[z])) e⟩) (λ_ _ e=>e) (λ_ _ _ e=>e) (λb ps e=>⟨#[],by rw[e];simp⟩) (λm hm=>?_) (λb u e=>?_) I.bare
 .have e:b=it:=by simpa using hb
  subst e;exact⟨h1,hL,h2,h3⟩
 .obtain⟨o,es,ep,ho,r⟩:=hm;exact⟨o,es,ep,k _ o (eD hL) ho,r⟩
 .refine(I.hok b u e).stay (λc v hc q=>k c v ?_ q) (λ_ q=>q) λ_ _ q=>q
  rcases hc with z|z
  .rw[z];exact nit b u e
  .exact nit c _ z
theorem Inv.tok(I:Inv X aA σ H s)(t:Nat):Inv X aA σ H {s with toks:=t}:=I.un (h':=s.heap) (t':=t) Un.refl I.hok
theorem Inv.kept(I:Inv X aA σ H s)(k:∀b u,s.heap.get? b=some u->h'.get? b=some u):Inv X aA σ H {s with heap:=h',toks:=t' }:=I.un (Un.kept k) (I.hok.kept k)
theorem Inv.laid(I:Inv X aA σ H s)(k:∀b u,s.heap.get? b=some u->h'.get? b=some u)(hp:s.heap.objs.size<=a)(new:ObjOk X.prog X.w (upd H a o) h' a o) :
  Inv X aA σ (upd H a o) {s with heap:=h',toks:=t' }:=I.un (Un.laid k hp (I.hok.fresh hp)) (I.hok.laid k hp new)
theorem Inv.write(I:Inv X aA σ H s)(mu:Mut (H x))(he:e=x\/H e=some (.own x))(k:∀b u,b≠e->s.heap.get? b=some u->h'.get? b=some u)(heo:∃u,h'.get? e=some u)
  (new:ObjOk X.prog X.w (upd H x o) h' x o):Inv X aA σ (upd H x o) {s with heap:=h',toks:=t' }:=I.un (Un.write mu he k heo) (I.hok.write mu he k heo new)
theorem Inv.weak{σ':List (Option V)}(I:Inv X aA σ H s)(hl:σ'.length=σ.length)(w:∀(i:Nat) v,σ'[i]? = some (some v)->σ[i]? = some (some v)):Inv X aA σ' H s :=
 ⟨I.ok,I.os,I.bare,I.base,let ⟨m,hn,hl'⟩:=I.loc; ⟨m,hn,λi x v e1 e2 e3=>hl' i x v e1 (w i v e2) e3⟩,I.cell,I.free,I.freeC,I.pin,I.hok,hl.trans I.len⟩
theorem Inv.pins_of(I:Inv X aA σ H s)(h:∀p∈pins',s.heap.get? p.1=some p.2/\H p.1=none/\p.1≠X.env.locals/\p.1∉X.fs/\∀v,p.2.data≠.cell v):Inv X pins' σ H s :=
 ⟨I.ok,I.os,I.bare,I.base,I.loc,I.cell,I.free,I.freeC,λp hp=>(bb.mp hp).elim (λz=>I.pin p (e9 _ z)) (h p),I.hok,I.len⟩
theorem a7e{N:List Str}(hN:N.Nodup){i j:Nat}(a:N[i]? = some x)(b:N[j]? = some x):i=j:=by
 obtain⟨h1,e1⟩:=ag.mp a;obtain⟨h2,e2⟩:=ag.mp b;exact(List.getElem_inj hN).mp (e1.trans e2.symm)
abbrev Hf(X:Cx)(x:Str):Prop:=X.fn x=true\/X.env.scope.names.lookup x=some .local
theorem a8b{i:Nat}(I:Inv X aA σ H s)(hN:X.N.Nodup)(hi:X.N[i]? = some x)(hx:Loc X.env.scope x)(r:RelV v u)
  (h:∀s',Inv X aA (σ.set i (some v)) H s'->(∃a,Heap.SameBut a s.heap s'.heap/\(a=X.env.locals\/X.env.cells.lookup x=some a))->Q () s') (hf:Hf X x:=by first|exact .inl rfl|exact .inr rfl|assumption):wpAny M A (storeName X.env x u) Q E s:=by
 obtain⟨m,hn,hl⟩:=id I.loc;have hcls:(X.env.scope.kind == .class || (X.env.scope.kind == .module && X.env.locals != X.env.globals))=false:=by rw[I.ok.kind];rfl
 have hiσ:i<σ.length:=by rw[I.len];exact(ag.mp hi).1
 have cne:=I.cne;have tracked:∀{a:Addr} {h':Heap},(∃o,s.heap.get? a=some o/\H a=none)->Heap.SameBut a s.heap h'->HOk X.prog X.w H h':=λ{a h'} ha hs b ob e=>by
  obtain⟨_,_,hfree⟩:=ha;refine(I.hok b ob e).stay (λc w' hc q=>(hs.2 c ?_).trans q) (λ_ q=>q) λ_ _ q=>q
  rintro rfl
  rcases hc with rfl|hc
  .rw[hfree]at e;cases e
  .rw[hfree]at hc;cases hc
 rcases hx with hk|hk
 .refine wpAny_storeName_local hk hn (λh' hn' hs=>?_) hcls;obtain⟨oL,_,_,hoL,_⟩:=id hn;refine h _ ⟨I.ok,I.os,I.bare,⟨λb o e n hb hx=>?_,λb o e n hb hx=>?_,I.base.free,λb o e hx=>?_,I.base.tups,I.base.frzs,I.base.tbls⟩,⟨_,hn',λj y v' e1 e2 e3=>?_⟩,λy c e=>?_,I.free,I.freeC,λp hp=>?_,tracked ⟨oL,hoL,I.free⟩ hs,by simpa using I.len⟩ ⟨_,hs,.inl rfl⟩
  .exact(hs.2 b (bV (aX (aT e) I.ok.above))).trans (I.base.keep b o e n hb hx)
  .obtain⟨sl,e1⟩:=I.base.slot b o e n hb hx;exact⟨sl,(hs.2 b (bV (aX (aT e) I.ok.above))).trans e1⟩
  .obtain⟨o',e1⟩:=I.base.there b o e hx;exact⟨o',(hs.2 b (bV (aX (aT e) I.ok.above))).trans e1⟩
  .by_cases hj:j=i
   .subst hj;rw[hi]at e1;cases e1
    rw[cb hiσ]at e2;cases e2
    exact⟨u,r,.inl ⟨hk,by simp⟩⟩
   .rw[cL (eD hj)]at e2;obtain⟨u',r',q⟩:=hl j y v' e1 e2 e3;refine⟨u',r',?_⟩
    rcases q with⟨k,e⟩|⟨k,c,e,z⟩
    .refine .inl ⟨k,?_⟩;have:y≠x:=λe=>hj (a7e hN e1 (e ▸ hi));simp[this,e]
    .exact .inr ⟨k,c,e,z.sameBut hs (cne y c e)⟩
  .obtain⟨w',z⟩:=I.cell y c e;exact⟨w',z.sameBut hs (cne y c e)⟩
  .obtain⟨e,n,ne,nf,d⟩:=I.pin p hp;exact⟨(hs.2 p.1 ne).trans e,n,ne,nf,d⟩
 .have hfn:X.fn x=true:=by
   rcases hf with z|z
   .exact z
   .rw[z]at hk;cases hk
  obtain⟨c,hc⟩:=I.ok.has x (.inl hk);obtain⟨w',z⟩:=I.cell x c hc;refine wpAny_storeName_cell I.ok.kind hk hc z (λh' hc' hs=>?_);obtain⟨oc,hoc,hocd⟩:=id z;refine h {s with heap:=h' } ⟨I.ok,I.os,I.bare,⟨λb o e n hb hx=>?_,λb o e n hb hx=>?_,I.base.free,λb o e hx=>?_,I.base.tups,I.base.frzs,I.base.tbls⟩,⟨m,hn.sameBut hs (eD (cne x c hc)),λj y v' e1 e2 e3=>?_⟩,λy c' e=>?_,I.free,I.freeC,λp hp=>?_,tracked ⟨oc,hoc,I.freeC x c hc⟩ hs,by simpa using I.len⟩ ⟨c,hs,.inr hc⟩
  .exact(hs.2 b (bV (aX (aT e) (I.ok.cab x c hfn hc)))).trans (I.base.keep b o e n hb hx)
  .obtain⟨sl,e1⟩:=I.base.slot b o e n hb hx;exact⟨sl,(hs.2 b (bV (aX (aT e) (I.ok.cab x c hfn hc)))).trans e1⟩
  .obtain⟨o',e1⟩:=I.base.there b o e hx;exact⟨o',(hs.2 b (bV (aX (aT e) (I.ok.cab x c hfn hc)))).trans e1⟩
  .by_cases hj:j=i
   .subst hj;rw[hi]at e1;cases e1
    rw[cb hiσ]at e2;cases e2
    exact⟨u,r,.inr ⟨.inl hk,c,hc,hc'⟩⟩
   .rw[cL (eD hj)]at e2;obtain⟨u',r',q⟩:=hl j y v' e1 e2 e3;refine⟨u',r',?_⟩
    rcases q with q|⟨k,c',e,z'⟩
    .exact .inl q
    .refine .inr ⟨k,c',e,z'.sameBut hs ?_⟩
     rintro rfl
     exact hj (a7e hN e1 (I.ok.inj _ _ _ e hc ▸ hi))
  .by_cases hcc:c'=c
   .subst hcc;exact⟨_,hc'⟩
   .obtain⟨w2,z2⟩:=I.cell y c' e;exact⟨w2,z2.sameBut hs hcc⟩
  .obtain⟨e,n,ne,nf,d⟩:=I.pin p hp;refine⟨(hs.2 p.1 ?_).trans e,n,ne,nf,d⟩
   intro q
   rw[q,hoc]at e;have q':oc=p.2:=bJ e;exact d w' (by rw[<-q'];exact hocd)
theorem a3f(I:Inv X aA σ H s)(hN:X.N.Nodup)(hi:X.N[i]? = some x)(hx:Loc X.env.scope x)(r:RelV v u)
  (h:∀s',Inv X aA (σ.set i (some v)) H s'->Q () s') (hf:Hf X x:=by first|exact .inl rfl|exact .inr rfl|assumption):wpAny M A (storeName X.env x u) Q E s :=
 a8b I hN hi hx r (λs' I' _=>h s' I') hf
theorem Inv.call'{s':Shared}(I:Inv X aA σ H s)(ho:s'.os=s.os)(u:Un (frs X.stack) ch H H' s.heap s'.heap)(hok:HOk X.prog X.w H' s'.heap)(hg:AllBare s'.gens)
  (hch:∀b∈ch,(b∈X.ex\/X.s₀.heap.objs.size<=b)/\b≠X.env.locals/\(∀x c,X.env.cells.lookup x=some c->c≠b)/\∀p∈X.pn++aA,p.1≠b):Inv X aA σ H' s':=by
 obtain⟨h',g',d',t',o'⟩:=s';have e:o'=s.os:=ho;subst e;exact I.call (g':=g') (t':=t') (d':=d') u hok hg hch
end
abbrev XK:=Value->Option Addr->Hp->Prop
abbrev St:=List (Option V)
abbrev VK:=V->Hp->Prop
abbrev TE:=St->Hp->VK->Prop
abbrev TT:=St->Hp->(Bool->Hp->Prop)->Prop
abbrev TA:=St->Hp->(List V->Hp->Prop)->Prop
structure Ends where
 nx:St->Hp->Prop
 rt:VK
 bk:St->Hp->Prop:=λ_ _=>False
 ct:St->Hp->Prop:=λ_ _=>False
abbrev TS:=Ends->St->Hp->Prop
def EP(X:Cx)(aA:List (Addr×Obj))(σ:St)(Q:VK)(u:Value)(s':Shared):Prop:=∃v H',Inv X aA σ H' s'/\RelV v u/\Q v H'
def TP(X:Cx)(aA:List (Addr×Obj))(σ:St)(Q:Bool->Hp->Prop)(b:Bool)(s':Shared):Prop:=∃H',Inv X aA σ H' s'/\Q b H'
def AP(X:Cx)(aA:List (Addr×Obj))(σ:St)(Q:List V->Hp->Prop)(us:List Value)(s':Shared):Prop:=∃vs H',Inv X aA σ H' s'/\Vals vs us/\Q vs H'
def SP(X:Cx)(aA:List (Addr×Obj))(D:Ends)(f:Flow)(s':Shared):Prop :=
 match f with
 |.next=>∃σ' H',Inv X aA σ' H' s'/\D.nx σ' H'
 |.brk=>∃σ' H',Inv X aA σ' H' s'/\D.bk σ' H'
 |.cont=>∃σ' H',Inv X aA σ' H' s'/\D.ct σ' H'
 |.ret u=>∃v σ' H',Inv X aA σ' H' s'/\RelV v u/\D.rt v H'
def PE(X:Cx)(e:Expr)(t:TE):Prop :=
 ∀(aA:List (Addr×Obj)) (s:Shared) (σ:St) (H:Hp) (Q:VK),Inv X aA σ H s->t σ H Q->wpAny (model X.prog X.w) X.A (eval e X.env) (EP X aA σ Q) X.xe s
def PT(X:Cx)(e:Expr)(t:TT):Prop :=
 ∀(aA:List (Addr×Obj)) (s:Shared) (σ:St) (H:Hp) (Q:Bool->Hp->Prop),Inv X aA σ H s->t σ H Q->wpAny (model X.prog X.w) X.A (isTrue e X.env (eval e X.env)) (TP X aA σ Q) X.xe s
def PW(X:Cx)(e:Expr)(t:TT):Prop :=
 ∀(whole:Sem Value) (aA:List (Addr×Obj)) (s:Shared) (σ:St) (H:Hp) (Q:Bool->Hp->Prop),Inv X aA σ H s->t σ H Q->wpAny (model X.prog X.w) X.A (isTrue e X.env whole) (TP X aA σ Q) X.xe s
theorem PW.pt(h:PW X e t):PT X e t:=h _
def PA(X:Cx)(es:List Expr)(t:TA):Prop :=
 ∀(pos:Pos) (aA:List (Addr×Obj)) (s:Shared) (σ:St) (H:Hp) (Q:List V->Hp->Prop),Inv X aA σ H s->t σ H Q->wpAny (model X.prog X.w) X.A (spliced (backTo pos (starEach es X.env))) (AP X aA σ Q) X.xe s
def PS(X:Cx)(st:Stmt)(t:TS):Prop :=
 ∀(aA:List (Addr×Obj)) (s:Shared) (σ:St) (H:Hp) (D:Ends),Inv X aA σ H s->t D σ H->wpAny (model X.prog X.w) X.A (exec st X.env) (SP X aA D) X.xe s
def PSs(X:Cx)(st:List Stmt)(t:TS):Prop :=
 ∀(aA:List (Addr×Obj)) (s:Shared) (σ:St) (H:Hp) (D:Ends),Inv X aA σ H s->t D σ H->wpAny (model X.prog X.w) X.A (execs st X.env) (SP X aA D) X.xe s
theorem thn{α:Type}{t:Sem α}{Q Q':α->Shared->Prop}{M:Model}{A:Around}{E:Value->Shared->Prop}{s:Shared}(h:wpAny M A t Q E s)(hQ:∀a s,Q a s->Q' a s):wpAny M A t Q' E s:=bP h hQ λ_ _ x=>x
section
variable{X:Cx}
noncomputable def b06(i:Nat):TE:=λσ H Q=>∃v,σ[i]? = some (some v)/\Q v H
def tC(v:V):TE:=λ_ H Q=>Q v H
theorem aei(hN:X.N[i]? = some x)(hv:Vis X.env.scope x)(hd:(x == ("__debug__" : Str))=false:=by decide)(hcd:(x == ("__classdict__" : Str))=false:=by decide):PE X (.Name x pos) (b06 i):=by
 intro aA s σ H Q I h
 obtain⟨v,e,h⟩:=h;obtain⟨m,hn,hl⟩:=I.loc;obtain⟨u,r,l⟩:=hl i x v hN e hv;have fin:EP X aA σ Q u s:=⟨v,H,I,r,h⟩
 rcases l with⟨hk,hm⟩|⟨hk,c,hc,hcell⟩
 .exact wpAny_Name (wpAny_loadName_local I.ok.kind hk hn hm fin) hd
 .rcases hk with hk|hk
  .exact wpAny_Name (wpAny_loadName_cell I.ok.kind hk hc hcell fin) hd
  .exact wpAny_Name (wpAny_loadName_free I.ok.kind hk hc hcell fin hcd) hd
theorem ara{i j pos}:PE X (.Constant (.int i) j pos) (tC (.int i)):=λ_ _ _ H _ I h=>wpAny_Constant_int ⟨.int i,H,I.tok _,⟨_,rfl⟩,h⟩
theorem ax9{b j pos}:PE X (.Constant (.bool b) j pos) (tC (.bl b)):=λ_ _ _ H _ I h=>Constant_bool ⟨.bl b,H,I,rfl,h⟩
theorem arb{j pos}:PE X (.Constant .none j pos) (tC .non):=λ_ _ _ H _ I h=>Constant_none ⟨.non,H,I,rfl,h⟩
theorem arc{x j pos}:PE X (.Constant (.str x) j pos) (tC (.str x)):=λ_ _ _ H _ I h=>Calls.Constant_str ⟨.str x,H,I.tok _,⟨_,rfl⟩,h⟩
def Gl(X:Cx)(x:Str):Prop:=X.env.kindOf x=some .globalImplicit
theorem a4c(I:Inv X aA σ H s)(hg:Gl X x)(hm:X.mg x=some u)(h:Q u s)
  (hd:(x == ("__debug__" : Str))=false:=by decide):wpAny (model X.prog X.w) X.A (eval (.Name x pos) X.env) Q E s :=
 Calls.Name_function_global I.ok.kind hg (Calls.loadGlobal_global (by rw[I.ok.glob];exact I.mod.glob.keeps I.bk) hm h) hd
theorem abm(I:Inv X aA σ H s)(hg:Gl X x)(hm:X.mg x=none)(hv:bootBuiltins x=some u)(h:Q u s)
  (hn:x ≠ "__name__":=by decide) (hd:(x == ("__debug__" : Str))=false:=by decide):wpAny (model X.prog X.w) X.A (eval (.Name x pos) X.env) Q E s:=by
 obtain⟨mb,h1,h2⟩:=I.mod.blt;exact Calls.Name_function_global I.ok.kind hg (Calls.loadGlobal_builtin (by rw[I.ok.glob];exact I.mod.glob.keeps I.bk) hm (by rw[I.ok.blt];exact h1.keeps I.bk) ((h2 x hn).trans hv) h) hd
theorem zb(hg:Gl X x)(hm:X.mg x=some u)(r:RelV v u)(hd:(x == ("__debug__" : Str))=false:=by decide):PE X (.Name x pos) (tC v) :=
 λ_ _ _ H _ I h=>a4c I hg hm ⟨v,H,I,r,h⟩ hd
theorem aa7(hg:Gl X x)(hm:X.mg x=none)(hv:bootBuiltins x=some u)(r:RelV v u)(hn:x ≠ "__name__":=by decide)(hd:(x == ("__debug__" : Str))=false:=by decide):PE X (.Name x pos) (tC v) :=
 λ_ _ _ H _ I h=>abm I hg hm hv ⟨v,H,I,r,h⟩ hn hd
variable{a b:Expr}{ta tb:TE}{pos:Pos}
variable{tA tB':TT}{aG:List Expr}
noncomputable def b07(t u:TT):TT:=λσ H Q=>t σ H λc H1=>if c=true then u σ H1 Q else Q false H1
noncomputable def tOr(t u:TT):TT:=λσ H Q=>t σ H λc H1=>if c=true then Q true H1 else u σ H1 Q
noncomputable def b08(t:TT):TT:=λσ H Q=>t σ H λc H1=>Q (!c) H1
theorem anp(ha:PT X a tA):PW X (.BoolOp .And [a] pos) tA:=by
 intro wh aA s σ H Q I h
 refine isTrue_and (thn (ha aA s σ H Q I h) λc s1 e=>?_)
 cases c with
 |true=>exact isTrue_and_nil e
 |false=>exact e
theorem ard(ha:PT X a tA):PW X (.BoolOp .Or [a] pos) tA:=by
 intro wh aA s σ H Q I h
 refine isTrue_or (thn (ha aA s σ H Q I h) λc s1 e=>?_)
 cases c with
 |false=>exact isTrue_or_nil e
 |true=>exact e
theorem arf(ha:PT X a tA)(hb:PW X (.BoolOp .And (b::aG) pos) tB'):PW X (.BoolOp .And (a::b::aG) pos) (b07 tA tB'):=by
 intro wh aA s σ H Q I h
 refine isTrue_and (thn (ha aA s σ H _ I h) λc s1 ⟨H1,I1,q1⟩=>?_)
 cases c with
 |true=>exact hb wh aA s1 σ H1 Q I1 q1
 |false=>exact⟨H1,I1,q1⟩
theorem axa(ha:PT X a tA)(hb:PW X (.BoolOp .Or (b::aG) pos) tB'):PW X (.BoolOp .Or (a::b::aG) pos) (tOr tA tB'):=by
 intro wh aA s σ H Q I h
 refine isTrue_or (thn (ha aA s σ H _ I h) λc s1 ⟨H1,I1,q1⟩=>?_)
 cases c with
 |true=>exact⟨H1,I1,q1⟩
 |false=>exact hb wh aA s1 σ H1 Q I1 q1
theorem arh(ha:PT X a tA):PT X (.UnaryOp .Not a pos) (b08 tA):=by
 intro aA s σ H Q I h
 exact isTrue_not (ha aA s σ H (λc H1=>Q (!c) H1) I h)
noncomputable def axb(ta tb:TE):TE:=λσ H Q=>ta σ H λx H1=>∃c,x=.bl c/\if c=true then tb σ H1 Q else Q (.bl false) H1
noncomputable def axc(ta:TE):TE:=λσ H Q=>ta σ H λx H1=>∃c,x=.bl c/\Q (.bl (!c)) H1
theorem ari{op}(h:PE X a t):PE X (.BoolOp op [a] pos) t:=λaA s σ H Q I hw=>BoolOp_one (h aA s σ H Q I hw)
theorem arj(ha:PE X a ta)(hb:PE X (.BoolOp .And (b::aG) pos) tb):PE X (.BoolOp .And (a::b::aG) pos) (axb ta tb):=by
 intro aA s σ H Q I h
 refine BoolOp_and (thn (ha aA s σ H _ I h) λv s1 ⟨x,H1,I1,r1,q1⟩=>?_);obtain⟨c,rfl,q1⟩:=q1;cases r1
 refine bS ?_
 cases c with
 |true=>exact hb aA s1 σ H1 Q I1 q1
 |false=>exact⟨.bl false,H1,I1,rfl,q1⟩
theorem ark(ha:PE X a ta):PE X (.UnaryOp .Not a pos) (axc ta):=by
 intro aA s σ H Q I h
 refine UnaryOp_ (thn (ha aA s σ H _ I h) λv s1 ⟨x,H1,I1,r1,q1⟩=>?_);obtain⟨c,rfl,q1⟩:=q1;cases r1
 exact not_of (bS ⟨.bl (!c),H1,I1,rfl,q1⟩)
noncomputable def tIf(t:TT)(ta tb:TE):TE:=λσ H Q=>t σ H λc H1=>if c=true then ta σ H1 Q else tb σ H1 Q
theorem aih{c:Expr}(hc:PT X c tA)(ha:PE X a ta)(hb:PE X b tb):PE X (.IfExp c a b pos) (tIf tA ta tb):=by
 intro aA s σ H Q I h
 refine wpAny_IfExp (thn (hc aA s σ H _ I h) λd s1 ⟨H1,I1,q1⟩=>?_)
 cases d with
 |true=>exact ha aA s1 σ H1 Q I1 q1
 |false=>exact hb aA s1 σ H1 Q I1 q1
end
def SqL(K:Fg)(H:Hp)(a:Addr)(xs:List V):Prop :=
 Rd H a (.lst xs) \/
  ∃(o:Obj) (its:Array Value) (n:Nat),K.lookup a=some o/\o.cls=.type "list"/\o.dict=none/\o.data=.seq its n/\its.size<=sizeLine/\Vals xs its.toList
def SqT(K:Fg)(H:Hp)(a:Addr)(xs:List V):Prop :=
 Rd H a (.tup xs) \/
  ∃(o:Obj) (its:Array Value) (n:Nat),K.lookup a=some o/\o.cls=.type "tuple"/\o.data=.seq its n/\its.size<=sizeLine/\Vals xs its.toList
noncomputable def b09:Value->Option V
 |.none=>some .non
 |.bool b=>some (.bl b)
 |.int i _=>some (.int i)
 |.str x _=>some (.str x)
 |.bytes b _=>some (.byt b)
 |.float b _=>some (.flt b)
 |.ref a=>some (.ref a)
 |.type n=>some (.ty n)
 |_=>none
theorem RelV.abs(r:RelV x u):b09 u=some x:=by
 cases x with
 |non=>cases r;rfl
 |bl _=>cases r;rfl
 |int _=>obtain⟨t,rfl⟩:=r;rfl
 |str _=>obtain⟨t,rfl⟩:=r;rfl
 |byt _=>obtain⟨t,rfl⟩:=r;rfl
 |flt _=>obtain⟨t,rfl⟩:=r;rfl
 |ref _=>cases r;rfl
 |ty _=>cases r;rfl
theorem RelV.inj(r:RelV x u)(q:RelV y u):x=y:=bJ (r.abs.symm.trans q.abs)
theorem Vals.inj:∀{xs ys:List V} {us:List Value},Vals xs us->Vals ys us->xs=ys
 |_,_,_,.nil,.nil=>rfl
 |_,_,_,.cons r t,.cons r' t'=>by rw[r.inj r',Vals.inj t t']
section
variable{X:Cx}{aA:List (Addr×Obj)}{σ:St}{H:Hp}{s:Shared}{a:Addr}{xs ys:List V}
theorem SqL.of{K:Fg}(h:H a=some (.lst xs)):SqL K H a xs:=.inl (.inl h)
theorem SqT.of{K:Fg}(h:H a=some (.tup xs)):SqT K H a xs:=.inl (.inl h)
theorem Inv.list(I:Inv X aA σ H s)(h:SqL X.K H a xs):∃its:List Value,Vals xs its/\PlainL s.heap a its.toArray/\xs.length<=sizeLine:=by
 rcases h with h|⟨o,its,n,hk,hc,hd,hs,hz,r⟩
 .obtain⟨z,its,n,r,e⟩:=h.ok I.hok;exact⟨its,r,⟨_,n,e,rfl,rfl,rfl⟩,z⟩
 .refine⟨its.toList,r,⟨o,n,I.kIn a o hk,hc,hd,by simpa using hs⟩,?_⟩
  have e:=r.length;simp only[cR]at e;omega
theorem Inv.tuple(I:Inv X aA σ H s)(h:SqT X.K H a xs):∃its:List Value,Vals xs its/\IsTup s.heap a its.toArray/\xs.length<=sizeLine:=by
 rcases h with h|⟨o,its,n,hk,hc,hs,hz,r⟩
 .obtain⟨z,its,r,p⟩:=h.ok I.hok;exact⟨its,r,p.r,z⟩
 .refine⟨its.toList,r,⟨o,I.kIn a o hk,hc,n,by simpa using hs⟩,?_⟩
  have e:=r.length;simp only[cR]at e;omega
theorem Inv.list_inj(I:Inv X aA σ H s)(h:SqL X.K H a xs)(h':SqL X.K H a ys):xs=ys:=by
 obtain⟨its,r,⟨o,n,e,_,_,d⟩,_⟩:=I.list h;obtain⟨its',r',⟨o',n',e',_,_,d'⟩,_⟩:=I.list h';rw[e]at e';cases e'
 rw[d]at d'
 injection d' with d1 _
 have:its=its':=by simpa using ah Array.toList d1
 subst this;exact r.inj r'
theorem Inv.tuple_inj(I:Inv X aA σ H s)(h:SqT X.K H a xs)(h':SqT X.K H a ys):xs=ys:=by
 obtain⟨its,r,⟨o,e,_,n,d⟩,_⟩:=I.tuple h;obtain⟨its',r',⟨o',e',_,n',d'⟩,_⟩:=I.tuple h';rw[e]at e';cases e'
 rw[d]at d'
 injection d' with d1 _
 have:its=its':=by simpa using ah Array.toList d1
 subst this;exact r.inj r'
end
abbrev Cx.wish(X:Cx)(E:Value->Shared->Prop):Cx:={X with xe:=E}
abbrev Cx.nox(X:Cx):Cx:=X.wish λ_ _=>False
theorem Cx.Ok.wish{X:Cx}(ok:X.Ok)(E:Value->Shared->Prop):(X.wish E).Ok :=
 ⟨ok.mod,ok.kind,ok.glob,ok.blt,ok.above,ok.inj,ok.has,ok.cab,ok.hd,ok.frames,ok.stk,ok.exf,ok.bs,ok.bsz,ok.noex,ok.exfs,ok.funs,ok.frf⟩
theorem Cx.Ok.unwish{X:Cx}(ok:(X.wish E).Ok):X.Ok :=
 ⟨ok.mod,ok.kind,ok.glob,ok.blt,ok.above,ok.inj,ok.has,ok.cab,ok.hd,ok.frames,ok.stk,ok.exf,ok.bs,ok.bsz,ok.noex,ok.exfs,ok.funs,ok.frf⟩
section
variable{X:Cx}{aA:List (Addr×Obj)}{σ:St}{H:Hp}{s:Shared}{E:Value->Shared->Prop}
theorem Inv.wish(I:Inv X aA σ H s)(E:Value->Shared->Prop):Inv (X.wish E) aA σ H s:=⟨I.ok.wish E,I.os,I.bare,I.base,I.loc,I.cell,I.free,I.freeC,I.pin,I.hok,I.len⟩
theorem Inv.unwish(I:Inv (X.wish E) aA σ H s):Inv X aA σ H s:=⟨I.ok.unwish,I.os,I.bare,I.base,I.loc,I.cell,I.free,I.freeC,I.pin,I.hok,I.len⟩
theorem SP.unwish(h:SP (X.wish E) aA D f s'):SP X aA D f s':=by
 cases f with
 |next=>obtain⟨σ',H',I,q⟩:=h;exact⟨σ',H',I.unwish,q⟩
 |brk=>obtain⟨σ',H',I,q⟩:=h;exact⟨σ',H',I.unwish,q⟩
 |cont=>obtain⟨σ',H',I,q⟩:=h;exact⟨σ',H',I.unwish,q⟩
 |ret u=>obtain⟨v,σ',H',I,r,q⟩:=h;exact⟨v,σ',H',I.unwish,r,q⟩
theorem PSs.nox{st:List Stmt}{t:TS}(h:PSs X.nox st t):PSs X st t:=λaA s σ H D I hw =>
 bP (h aA s σ H D (I.wish _) hw) (λ_ _ q=>q.unwish) λ_ _ z=>False.elim z
end
section
variable{X:Cx}{st:Stmt}{aG:List Stmt}{t u:TS}{e:Expr}{te:TE}{pos:Pos}
def axd:TS:=λD σ H=>D.nx σ H
noncomputable def b0a(t u:TS):TS:=λD σ H=>t {D with nx:=u D} σ H
theorem anq:PSs X [] axd:=λ_ _ σ H _ I h=>dP ⟨σ,H,I,h⟩
theorem aii(h1:PS X st t)(h2:PSs X aG u):PSs X (st::aG) (b0a t u):=by
 intro aA s σ H D I h
 refine fT (thn (h1 aA s σ H {D with nx:=u D} I h) λf s1 q=>?_)
 cases f with
 |next =>
  obtain⟨σ',H',I',q⟩:=q;exact h2 aA s1 σ' H' D I' q
 |ret v=>exact q
 |brk=>exact q
 |cont=>exact q
theorem anr(h1:PS X st t):PSs X [st] t:=by
 intro aA s σ H D I h
 refine fT (thn (h1 aA s σ H D I h) λf s1 q=>?_)
 cases f with
 |next=>exact dP q
 |ret v=>exact q
 |brk=>exact q
 |cont=>exact q
theorem Inv.quiet(I:Inv X aA σ H s):interactive X.env=false:=by simp[interactive,I.ok.kind]
noncomputable def axe(te:TE):TS:=λD σ H=>te σ H λ_ H1=>D.nx σ H1
theorem ant(he:PE X e te)(hs:swapsWith e none pos.line X.env=pure false:=by rfl):PS X (.Expr e pos) (axe te):=by
 intro aA s σ H D I h
 exact wpAny_Expr_any (thn (he aA s σ H _ I h) λv s1 ⟨x,H1,I1,r1,q1⟩=>⟨σ,H1,I1,q1⟩) I.quiet hs
def b0b(te:TE):TS:=λD σ H=>te σ H D.rt
theorem arl(he:PE X e te):PS X (.Return (some e) pos) (b0b te):=by
 intro aA s σ H D I h
 exact wpAny_Return_some (thn (he aA s σ H _ I h) λv s1 ⟨x,H1,I1,r1,q1⟩=>⟨x,σ,H1,I1,r1,q1⟩)
noncomputable def b0c(c:TT)(t u:TS):TS:=λD σ H=>c σ H λb H1=>if b=true then t D σ H1 else u D σ H1
theorem axf{c:Expr}{a b:List Stmt}{tc:TT}(hc:PT X c tc)(ha:PSs X a t)(hb:PSs X b u):PS X (.If c a b pos) (b0c tc t u):=by
 intro aA s σ H D I h
 refine wpAny_If (thn (hc aA s σ H _ I h) λd s1 ⟨H1,I1,q1⟩=>?_)
 cases d with
 |true=>exact ha aA s1 σ H1 D I1 q1
 |false=>exact hb aA s1 σ H1 D I1 q1
end
abbrev TG:=V->St->Hp->(St->Hp->Prop)->Prop
abbrev TGs:=List V->St->Hp->(St->Hp->Prop)->Prop
def PG(X:Cx)(target:Expr)(t:TG):Prop :=
 ∀(aA:List (Addr×Obj)) (s:Shared) (σ:St) (H:Hp) (v:V) (u:Value) (Q:St->Hp->Prop),Inv X aA σ H s->RelV v u->t v σ H Q->
  wpAny (model X.prog X.w) X.A (assign target X.env u) (λ_ s'=>∃σ' H',Inv X aA σ' H' s'/\Q σ' H') X.xe s
def PGs(X:Cx)(ts:List Expr)(t:TGs):Prop :=
 ∀(aA:List (Addr×Obj)) (s:Shared) (σ:St) (H:Hp) (vs:List V) (us:List Value) (Q:St->Hp->Prop),Inv X aA σ H s->Vals vs us->t vs σ H Q->
  wpAny (model X.prog X.w) X.A (assignInOrder ((assignEach ts X.env).map (·.2)) us) (λ_ s'=>∃σ' H',Inv X aA σ' H' s'/\Q σ' H') X.xe s
abbrev arn:=V->V->V->Hp->(Hp->Prop)->Prop
def axg(X:Cx)(t:arn):Prop :=
 ∀(aA:List (Addr×Obj)) (s:Shared) (σ:St) (H:Hp) (o i v:V) (ov iv u:Value) (Q:Hp->Prop),Inv X aA σ H s->RelV o ov->RelV i iv->RelV v u->t o i v H Q->
  wpAny (model X.prog X.w) X.A (setItem ov iv u) (λ_ s'=>∃H',Inv X aA σ H' s'/\Q H') X.xe s
abbrev TIp:=V->V->Hp->VK->Prop
def PIp(X:Cx)(op:Operator)(t:TIp):Prop :=
 ∀(aA:List (Addr×Obj)) (s:Shared) (σ:St) (H:Hp) (x y:V) (v u:Value) (Q:VK),Inv X aA σ H s->RelV x v->RelV y u->t x y H Q->
  wpAny (model X.prog X.w) X.A (inplaceOp op v u) (EP X aA σ Q) X.xe s
section
variable{X:Cx}{pos:Pos}
noncomputable def a6j(i:Nat):TG:=λv σ H Q=>Q (σ.set i (some v)) H
theorem aa8(hN:X.N.Nodup)(hi:X.N[i]? = some x)(hx:Loc X.env.scope x)(hf:Hf X x:=by first|exact .inl rfl|exact .inr rfl|assumption):PG X (.Name x pos) (a6j i):=by
 intro aA s σ H v u Q I r h
 exact wpAny_assign_Name (a3f I hN hi hx r (λs' I'=>⟨_,H,I',h⟩) hf)
def aze:TGs:=λvs σ H Q=>vs=[]/\Q σ H
noncomputable def aij(t:TG)(u:TGs):TGs:=λvs σ H Q=>∃v r,vs=v::r/\t v σ H λσ' H'=>u r σ' H' Q
theorem aa9:PGs X [] aze:=by
 intro aA s σ H vs us Q I r h
 obtain⟨e,h⟩:=h;subst e;cases r
 exact assignInOrder_nil ⟨σ,H,I,h⟩
theorem a3g{e:Expr}{es:List Expr}{t:TG}{u:TGs}(h1:PG X e t)(h2:PGs X es u)
  (hs:(assignEach (e::es) X.env).map (·.2)=assign e X.env::(assignEach es X.env).map (·.2):=by rfl):PGs X (e::es) (aij t u):=by
 intro aA s σ H vs us Q I r h
 obtain⟨v,vr,e1,h⟩:=h;subst e1
 cases r with
 |cons r rr =>
  rw[hs];refine assignInOrder_cons (thn (h1 aA s σ H _ _ _ I r h) λ_ s1 ⟨σ1,H1,I1,q1⟩=>?_);exact h2 aA s1 σ1 H1 _ _ Q I1 rr q1
noncomputable def dj(K:Fg)(n:Nat)(t:TGs):TG:=λv σ H Q=>∃a xs,v=.ref a/\SqT K H a xs/\xs.length=n/\t xs σ H Q
theorem aej(hc:X.calm=true)(h:PGs X es t)
  (hn:(assignEach es X.env).length=n:=by rfl) (hst:(assignEach es X.env).findIdx? (·.1)=none:=by rfl):PG X (.Tuple es k pos) (dj X.K n t):=by
 intro aA s σ H v u Q I r hw
 obtain⟨a,xs,e1,hq,hl,hw⟩:=hw;subst e1;cases r
 obtain⟨its,rv,ht,hz⟩:=I.tuple hq;refine assign_Tuple_tuple (I.ok.hd hc) ht (by simp[hn,<-hl,rv.length]) hst λh' hx=>?_
 have I1:Inv X aA σ H {s with heap:=h' }:=I.kept (t':=s.toks) λb o e=>hx b o (bV (aT e)) e
 exact h aA _ σ H xs _ Q I1 (by simpa using rv) hw
noncomputable def a3h(to ti:TE)(t:arn):TG:=λv σ H Q=>to σ H λo H1=>ti σ H1 λi H2=>t o i v H2 λH3=>Q σ H3
theorem aro{o i:Expr}{to ti:TE}{t:arn}(ho:PE X o to)(hi:PE X i ti)(hs:axg X t)
  (ha:∀v,assign (.Subscript o i pos) X.env v=(do
   let ov <-holding [v] (eval o X.env)
   let iv <-holding [v,ov] (eval i X.env)
   standAt pos
   holding [v,ov,iv] (setItem ov iv v)
   release [v,ov,iv] []):=by intro _;rfl):PG X (.Subscript o i pos) (a3h to ti t):=by
 intro aA s σ H v u Q I r h
 rw[ha];refine ax (cW (thn (ho aA s σ H _ I h) λov s1 ⟨x,H1,I1,r1,q1⟩=>?_));refine ax (cW (thn (hi aA s1 σ H1 _ I1 q1) λiv s2 ⟨y,H2,I2,r2,q2⟩=>?_));refine ax (dY (ax (cW (thn (hs aA s2 σ H2 x y v ov iv u _ I2 r1 r2 r q2) λ_ s3 ⟨H3,I3,q3⟩=>?_))));exact wpAny_release ⟨σ,H3,I3,q3⟩
noncomputable def awp(te:TE)(g:TG):TS:=λD σ H=>te σ H λx H1=>g x σ H1 D.nx
theorem alw{tg e:Expr}{te:TE}{g:TG}(he:PE X e te)(hg:PG X tg g)(hs:swapsWithSole [tg] e pos.line X.env=pure false:=by rfl)(hw:swappedStores [tg] e X.env=pure none:=by rfl)
  (h1:(assignEach [tg] X.env).map (·.2)=[assign tg X.env]:=by rfl):PS X (.Assign [tg] e pos) (awp te g):=by
 intro aA s σ H D I h
 refine wpAny_Assign_stores (thn (he aA s σ H _ I h) λv s1 ⟨x,H1,I1,r1,q1⟩=>?_) hs hw;rw[h1];exact thn (hg aA s1 σ H1 x v _ I1 r1 q1) λ_ s2 q=>q
theorem arp{i:Nat}{x:Str}{e:Expr}{te:TE}{pos':Pos}(hN:X.N.Nodup)(hi:X.N[i]? = some x)(hx:Loc X.env.scope x)(he:PE X e te)(hs:swapsWith e (some (.Name x pos')) pos.line X.env=pure false:=by rfl)(hf:Hf X x:=by first|exact .inl rfl|exact .inr rfl|assumption) :
  PS X (.Assign [.Name x pos'] e pos) (awp te (a6j i)):=by
 intro aA s σ H D I h
 refine wpAny_Assign_Name (thn (he aA s σ H _ I h) λv s1 ⟨y,H1,I1,r1,q1⟩=>?_) hs;exact a3f I1 hN hi hx r1 (λs2 I2=>⟨_,H1,I2,q1⟩) hf
noncomputable def b0d(i:Nat)(te:TE)(ti:TIp):TS:=λD σ H=>∃x,σ[i]? = some (some x)/\te σ H λy H1=>ti x y H1 λz H2=>D.nx (σ.set i (some z)) H2
theorem arq{i:Nat}{x:Str}{e:Expr}{te:TE}{op:Operator}{ti:TIp}{pos':Pos}(hN:X.N.Nodup)(hi:X.N[i]? = some x)(hx:Loc X.env.scope x)(he:PE X e te)(ho:PIp X op ti)(hf:Hf X x:=by first|exact .inl rfl|exact .inr rfl|assumption) :
  PS X (.AugAssign (.Name x pos') op e pos) (b0d i te ti):=by
 intro aA s σ H D I h
 obtain⟨v,e1,h⟩:=h;obtain⟨m,hn,hl⟩:=I.loc;have vis:Vis X.env.scope x:=by rcases hx with k|k;exact .inl k;exact .inr (.inl k)
 obtain⟨u,r,l⟩:=hl i x v hi e1 vis;refine wpAny_AugAssign_Name ?_;have go:wpAny (model X.prog X.w) X.A (eval e X.env) (λw s₂=>wpAny (model X.prog X.w) X.A (inplaceOp op u w) (λr s₃=>wpAny (model X.prog X.w) X.A (storeName X.env x r) (λ_=>SP X aA D .next) X.xe s₃) X.xe s₂) X.xe s:=by
  refine thn (he aA s σ H _ I h) ?_
  rintro w s1 ⟨y,H1,I1,r1,q1⟩
  refine thn (ho aA s1 σ H1 v y u w _ I1 r r1 q1) ?_
  rintro z s2 ⟨zv,H2,I2,r2,q2⟩
  exact a3f I2 hN hi hx r2 (λs3 I3=>⟨_,H2,I3,q2⟩) hf
 rcases l with⟨hk,hm⟩|⟨hk,c,hc,hcell⟩
 .exact wpAny_loadName_local I.ok.kind hk hn hm go
 .rcases hk with hk|hk
  .exact wpAny_loadName_cell I.ok.kind hk hc hcell go
  .rcases hx with k|k
   .have:X.env.scope.names.lookup x=some .free:=hk
    rw[k]at this;cases this
   .have:X.env.scope.names.lookup x=some .free:=hk
    rw[k]at this;cases this
def axh(to ti te:TE)(tget:V->V->Hp->VK->Prop)(tip:TIp)(tset:arn):TS:=λD σ H=>to σ H λo H1=>ti σ H1 λi H2=>tget o i H2 λx H3=>te σ H3 λy H4=>tip x y H4 λz H5=>tset o i z H5 λH6=>D.nx σ H6
def azf(X:Cx)(t:V->V->Hp->VK->Prop):Prop :=
 ∀(aA:List (Addr×Obj)) (s:Shared) (σ:St) (H:Hp) (o i:V) (ov iv:Value) (Q:VK),Inv X aA σ H s->RelV o ov->RelV i iv->t o i H Q->
  wpAny (model X.prog X.w) X.A (getItem ov iv) (EP X aA σ Q) X.xe s
theorem anu{o i e:Expr}{to ti te:TE}{tget:V->V->Hp->VK->Prop}{tip:TIp}{tset:arn}{op:Operator}{tpos:Pos}(ho:PE X o to)(hi:PE X i ti)(hg:azf X tget)(he:PE X e te)(hp:PIp X op tip)(hs:axg X tset)
  (ha:∀ov iv new,augStore i ov iv new=(do holding [new,ov,iv] (setItem ov iv new);release [new,ov,iv] [];pure .next):=by intros;rfl):PS X (.AugAssign (.Subscript o i tpos) op e pos) (axh to ti te tget tip tset):=by
 intro aA s σ H D I h
 refine wpAny_AugAssign_SubscriptAny (thn (ho aA s σ H _ I h) λov s1 ⟨x1,H1,I1,r1,q1⟩=>?_) ha;refine thn (hi aA s1 σ H1 _ I1 q1) ?_
 rintro iv s2 ⟨x2,H2,I2,r2,q2⟩
 refine thn (hg aA s2 σ H2 x1 x2 ov iv _ I2 r1 r2 q2) ?_
 rintro old s3 ⟨x3,H3,I3,r3,q3⟩
 refine thn (he aA s3 σ H3 _ I3 q3) ?_
 rintro v s4 ⟨x4,H4,I4,r4,q4⟩
 refine thn (hp aA s4 σ H4 x3 x4 old v _ I4 r3 r4 q4) ?_
 rintro new s5 ⟨x5,H5,I5,r5,q5⟩
 exact thn (hs aA s5 σ H5 x1 x2 x5 ov iv new _ I5 r1 r2 r5 q5) λ_ s6 ⟨H6,I6,q6⟩=>⟨σ,H6,I6,q6⟩
end
section
variable{X:Cx}{pos:Pos}
def ars(c:TT)(tb:TS):TS:=λD σ H=>∃W:Nat->St->Hp->Prop,(∃m,W m σ H)/\∀m σ H,W m σ H->
 c σ H λb H1=>if b=true then ∃N:St->Hp->Prop,(∀σ' H',N σ' H'->∃m',m'<m/\W m' σ' H')/\tb {D with nx:=N,ct:=N,bk:=D.nx} σ H1 else D.nx σ H1
theorem aik{c:Expr}{body:List Stmt}{tc:TT}{tb:TS}(hp:PassesOwn (model X.prog X.w) X.A X.env X.xe)(hc:PT X c tc)(hb:PSs X body tb):PS X (.While c body [] pos) (ars tc tb):=by
 intro aA s σ H D I h
 obtain⟨W,⟨m0,w0⟩,turn⟩:=h;refine wpAny_While (codeAny_whileLoop (λn s'=>∃σ' H',Inv X aA σ' H' s'/\W n σ' H') ?_ m0 ⟨σ,H,I,w0⟩)
 rintro n s1 ⟨σ1,H1,I1,w1⟩
 refine dA hp (thn (hc aA s1 σ1 H1 _ I1 (turn n σ1 H1 w1)) λb s2 ⟨H2,I2,q2⟩=>?_)
 cases b with
 |true =>
  obtain⟨N,hN,q2⟩:=q2;rw[av rfl];refine dA hp (thn (hb aA s2 σ1 H2 _ I2 q2) λf s3 q3=>?_)
  cases f with
  |next =>
   obtain⟨σ3,H3,I3,n3⟩:=q3;obtain⟨m',hm,w3⟩:=hN σ3 H3 n3;exact⟨m',hm,σ3,H3,I3,w3⟩
  |cont =>
   obtain⟨σ3,H3,I3,n3⟩:=q3;obtain⟨m',hm,w3⟩:=hN σ3 H3 n3;exact⟨m',hm,σ3,H3,I3,w3⟩
  |brk=>exact q3
  |ret v=>exact q3
 |false =>
  rw[aO aU];exact dP ⟨σ1,H2,I2,q2⟩
end
structure It where
 go:Nat->Hp->Prop
 yld:Nat->Hp->V->Hp->Prop
 stop:Nat->Hp->Prop
def FpOk(X:Cx)(aA:List (Addr×Obj))(H:Hp)(b:Addr):Prop :=
 H b=none/\b≠X.env.locals/\b∉X.fs/\(b∈X.ex\/X.s₀.heap.objs.size<=b)/\(∀x c,X.env.cells.lookup x=some c->c≠b)/\∀p∈X.pn++aA,p.1≠b
theorem Inv.fpOk(I:Inv X aA σ H s)(hb:s.heap.objs.size<=b)(hn:H' b=none):FpOk X aA H' b:=by
 refine⟨hn,Nat.ne_of_gt (aX I.lt hb),I.nofs hb,.inr (bE I.sz hb),λx c e z=>?_,λp hp z=>?_⟩
 .obtain⟨v,q⟩:=I.cell x c e;exact absurd (aX q.lt (by rw[z];exact hb)) (cH _)
 .exact absurd (aX (aT (I.pin p hp).1) (by rw[z];exact hb)) (cH _)
structure Turn (P:Program) (w:World) (K:Fg) (tg:Expr) (J:It) (fp:List Addr) (it:Addr) (tn:Nat->Heap->Prop):Prop where
 mem:it∈fp
 obj:∀i h,tn i h->∀b∈fp,∃o,h.get? b=some o/\∀v,o.data≠.cell v
 keep:∀i h h',tn i h->(∀b∈fp,∀o,h.get? b=some o->h'.get? b=some o)->tn i h'
 item:∀(X:Cx),X.prog=P->X.w=w->X.K=K->X.calm=true->∀(i:Nat) (aA:List (Addr×Obj)) (s:Shared) (σ:St) (H:Hp) (E:Value->Shared->Prop),Inv X aA σ H s->(∀b∈fp,FpOk X aA H b)->tn i s.heap->J.go i H->
  wpAny (model P w) X.A (pyNext (.ref it)) (λr s1=>∃u,r=some u /\
   wpAny (model P w) X.A (letOwnedTupleGo tg (.ref it) u) (λ_ s2=>∃x H',Inv X aA σ H' s2/\RelV x u/\J.yld i H x H'/\tn (i+1) s2.heap/\∀b∈fp,H' b=none) E s1) E s
 done:∀(X:Cx),X.prog=P->X.w=w->X.K=K->X.calm=true->∀(i:Nat) (aA:List (Addr×Obj)) (s:Shared) (σ:St) (H:Hp) (E:Value->Shared->Prop),Inv X aA σ H s->(∀b∈fp,FpOk X aA H b)->tn i s.heap->J.stop i H->
  wpAny (model P w) X.A (pyNext (.ref it)) (λr s1=>r=none/\Inv X aA σ H s1) E s
 self:∀(A:Around) (i:Nat) (s:Shared) (Q:Value->Shared->Prop) (E:Value->Shared->Prop),tn i s.heap->Q (.ref it) s->wpAny (model P w) A (pyIter (.ref it)) Q E s
abbrev TI:=St->Hp->(It->Hp->Prop)->Prop
def PIE(X:Cx)(aA:List (Addr×Obj))(σ:St)(tg:Expr)(R:It->Hp->Prop)(itv:Value)(s2:Shared):Prop :=
 ∃(it:Addr) (fp:List Addr) (tn:Nat->Heap->Prop) (J:It) (H':Hp),itv=.ref it/\Inv X aA σ H' s2/\Turn X.prog X.w X.K tg J fp it tn/\tn 0 s2.heap/\(∀b∈fp,FpOk X aA H' b)/\R J H'
def PI(X:Cx)(tg aF:Expr)(wi:TI):Prop :=
 ∀(aA:List (Addr×Obj)) (s:Shared) (σ:St) (H:Hp) (R:It->Hp->Prop),Inv X aA σ H s->wi σ H R->
  wpAny (model X.prog X.w) X.A (eval aF X.env) (λv s1=>wpAny (model X.prog X.w) X.A (pyIter v) (PIE X aA σ tg R) X.xe s1) X.xe s
theorem ail{s:Shared}(ho:s.heap.get? it=some o)(hc:o.cls=.type n)(hd:o.data=.fields vs)
  (hn:["enumerate","zip","dict_itemiterator","dict_reverseitemiterator","odict_iterator","itertools.zip_longest","itertools.pairwise"].contains n=false) (hQ:Q () s):wpAny M A (letOwnedTupleGo tg (.ref it) u) Q E s:=by
 unfold letOwnedTupleGo
 cases tg<;>first
  |exact aS hQ
  | (cases u<;>first
    |exact aS hQ
    | (refine ax (wpAny_load ho ?_)
       rw[hc,hd];show wpAny M A (if (["enumerate","zip","dict_itemiterator","dict_reverseitemiterator","odict_iterator","itertools.zip_longest","itertools.pairwise"].contains n && vs[0]? == some (rawInt _))=true then _ else _) Q E s
       rw[aO (by intro h;rw[hn,dI]at h;cases h)]
       exact aS hQ))
noncomputable def Itl(K:Fg)(a:Addr):It :=
 ⟨λi H=>∃xs x,SqL K H a xs/\xs[i]? = some x,λi H x H'=>H'=H/\∀xs,SqL K H a xs->xs[i]? = some x,λi H=>∃xs,SqL K H a xs/\xs.length<=i⟩
noncomputable def Itt(K:Fg)(a:Addr):It :=
 ⟨λi H=>∃xs x,SqT K H a xs/\xs[i]? = some x,λi H x H'=>H'=H/\∀xs,SqT K H a xs->xs[i]? = some x,λi H=>∃xs,SqT K H a xs/\xs.length<=i⟩
noncomputable def Itr(lo:Int)(n:Nat):It:=⟨λi _=>i<n,λi H x H'=>H'=H/\x=.int (lo+i),λi _=>n<=i⟩
theorem aek{P:Program}{w:World}{K:Fg}{tg:Expr}(a it:Addr):Turn P w K tg (Itl K a) [it] it (λi h=>h.IsListIter it a i) where
 mem:=by simp
 obj:=λi h st b hb=>by
  have e:b=it:=by simpa using hb
  subst e;obtain⟨o,e,c,d⟩:=st;exact⟨o,e,λv z=>by rw[d]at z;cases z⟩
 keep:=λi h h' st k=>st.at λo e=>k it (by simp) o e
 item:=by
  intro X hP hw hK hc i aA s σ H E I hf st hg
  subst hP hw hK;obtain⟨xs,x,hq,hx⟩:=hg;obtain⟨its,rv,p,hz⟩:=I.list hq;obtain⟨u,hu,ru⟩:=rv.get hx;obtain⟨f0,f1,f2,f3,f4,f5⟩:=hf it (by simp)
  refine wpAny_pyNext_list_item st p.isList (x:=u) (by simpa using hu) λh' st' sb=>?_
  have I1:Inv X aA σ H {s with heap:=h' }:=I.turned (t':=s.toks) (λb o hb e=>(sb.2 b hb).trans e) f0 f1 f3 f4 f5
  obtain⟨o,e,c,d⟩:=id st';exact⟨u,rfl,ail (s:={s with heap:=h' }) e c d (by decide) ⟨x,H,I1,ru,⟨rfl,λys hy=>by rw[I.list_inj hy hq];exact hx⟩,st',λb hb=>(hf b hb).1⟩⟩
 done:=by
  intro X hP hw hK hc i aA s σ H E I hf st hg
  subst hP hw hK;obtain⟨xs,hq,hx⟩:=hg;obtain⟨its,rv,p,hz⟩:=I.list hq;obtain⟨f0,f1,f2,f3,f4,f5⟩:=hf it (by simp)
  have hl:=rv.length;exact wpAny_pyNext_list_end (I.ok.hd hc) st p.isList (by simp;omega) λh' eb=>⟨rfl,I.turned (t':=s.toks) (λb o hb e=>eb b o hb e) f0 f1 f3 f4 f5⟩
 self:=λ_ _ _ _ _ st h=>wpAny_pyIter_listiter st h
theorem ad9{P:Program}{w:World}{K:Fg}{tg:Expr}(a it:Addr):Turn P w K tg (Itt K a) [it] it (λi h=>h.IsTupleIter it a i) where
 mem:=by simp
 obj:=λi h st b hb=>by
  have e:b=it:=by simpa using hb
  subst e;obtain⟨o,e,c,d⟩:=st;exact⟨o,e,λv z=>by rw[d]at z;cases z⟩
 keep:=λi h h' st k=>st.at λo e=>k it (by simp) o e
 item:=by
  intro X hP hw hK hc i aA s σ H E I hf st hg
  subst hP hw hK;obtain⟨xs,x,hq,hx⟩:=hg;obtain⟨its,rv,p,hz⟩:=I.tuple hq;obtain⟨u,hu,ru⟩:=rv.get hx;obtain⟨f0,f1,f2,f3,f4,f5⟩:=hf it (by simp)
  refine wpAny_pyNext_tuple_item st (show s.heap.IsTuple a its.toArray from p) (x:=u) (by simpa using hu) λh' st' sb=>?_
  have I1:Inv X aA σ H {s with heap:=h' }:=I.turned (t':=s.toks) (λb o hb e=>(sb.2 b hb).trans e) f0 f1 f3 f4 f5
  obtain⟨o,e,c,d⟩:=id st';exact⟨u,rfl,ail (s:={s with heap:=h' }) e c d (by decide) ⟨x,H,I1,ru,⟨rfl,λys hy=>by rw[I.tuple_inj hy hq];exact hx⟩,st',λb hb=>(hf b hb).1⟩⟩
 done:=by
  intro X hP hw hK hc i aA s σ H E I hf st hg
  subst hP hw hK;obtain⟨xs,hq,hx⟩:=hg;obtain⟨its,rv,p,hz⟩:=I.tuple hq;obtain⟨f0,f1,f2,f3,f4,f5⟩:=hf it (by simp)
  have hl:=rv.length;exact wpAny_pyNext_tuple_end (I.ok.hd hc) st (show s.heap.IsTuple a its.toArray from p) (by simp;omega) λh' eb=>⟨rfl,I.turned (t':=s.toks) (λb o hb e=>eb b o hb e) f0 f1 f3 f4 f5⟩
 self:=λ_ _ _ _ _ st h=>wpAny_pyIter_tupleiter st h
theorem ada{P:Program}{w:World}{K:Fg}{tg:Expr}(it:Addr)(lo:Int)(n:Nat):Turn P w K tg (Itr lo n) [it] it (λi h=>IsRangeIter h it (lo+(i:Nat)*1) ((n:Int)-(i:Nat)) 1) where
 mem:=by simp
 obj:=λi h st b hb=>by
  have e:b=it:=by simpa using hb
  subst e;exact⟨_,st,λv z=>by
   have z':Data.fields _=Data.cell v:=z
   cases z'⟩
 keep:=λi h h' st k=>k it (by simp) _ st
 item:=by
  intro X hP hw hK hc i aA s σ H E I hf st hg
  subst hP hw hK;obtain⟨f0,f1,f2,f3,f4,f5⟩:=hf it (by simp)
  have W:=Walks.range (prog:=X.prog) (w:=X.w) (I.ok.hd hc) it lo 1 n;refine W.item i s _ _ hg st λv h' tk hv st' kk=>?_;obtain⟨t,rfl⟩:=hv;have I1:Inv X aA σ H {s with heap:=h',toks:=tk}:=I.turned (λb o hb e=>kk b o (by simpa using hb) e) f0 f1 f3 f4 f5
  refine⟨_,rfl,ail (s:={s with heap:=h',toks:=tk}) (n := "range_iterator") st' rfl rfl (by decide) ⟨.int (lo+i),H,I1,⟨t,?_⟩,⟨rfl,rfl⟩,st',λb hb=>(hf b hb).1⟩⟩
  rw[Int.mul_one]
 done:=by
  intro X hP hw hK hc i aA s σ H E I hf st hg
  subst hP hw hK;obtain⟨f0,f1,f2,f3,f4,f5⟩:=hf it (by simp)
  exact wpAny_pyNext_range_end (I.ok.hd hc) st (by have:n<=i:=hg;omega) λh' eb=>⟨rfl,I.turned (t':=s.toks) (λb o hb e=>eb b o hb e) f0 f1 f3 f4 f5⟩
 self:=λ_ _ _ _ _ st h=>wpAny_pyIter_rangeiter st h
section
variable{X:Cx}{tg:Expr}
noncomputable def axi(K:Fg)(tl:TE):TI:=λσ H R=>tl σ H λx H1=>∃a,x=.ref a/\(∃xs,SqL K H1 a xs)/\R (Itl K a) H1
noncomputable def b0e(K:Fg)(tl:TE):TI:=λσ H R=>tl σ H λx H1=>∃a,x=.ref a/\(∃xs,SqT K H1 a xs)/\R (Itt K a) H1
theorem ael{l:Expr}{tl:TE}(hl:PE X l tl):PI X tg l (axi X.K tl):=by
 intro aA s σ H R I h
 refine thn (hl aA s σ H _ I h) ?_
 rintro v s1 ⟨x,H1,I1,r1,q1⟩
 obtain⟨a,e,⟨xs,hq⟩,q⟩:=q1;subst e;cases r1
 obtain⟨its,rv,p,hz⟩:=I1.list hq;refine wpAny_pyIter_list p.isList ?_;refine⟨s1.heap.objs.size,[s1.heap.objs.size],_,_,H1,rfl,I1.kept (t':=s1.toks) λb o e=>aI _ e,aek a _,⟨_,bo _ rfl,rfl,rfl⟩,λb hb=>?_,q⟩;have e:b=s1.heap.objs.size:=by simpa using hb
 subst e;exact I1.fpOk (a9 _) (I1.hok.fresh (a9 _))
theorem art{l:Expr}{tl:TE}(hl:PE X l tl):PI X tg l (b0e X.K tl):=by
 intro aA s σ H R I h
 refine thn (hl aA s σ H _ I h) ?_
 rintro v s1 ⟨x,H1,I1,r1,q1⟩
 obtain⟨a,e,⟨xs,hq⟩,q⟩:=q1;subst e;cases r1
 obtain⟨its,rv,p,hz⟩:=I1.tuple hq;refine wpAny_pyIter_tuple (show s1.heap.IsTuple a its.toArray from p) ?_
 refine⟨s1.heap.objs.size,[s1.heap.objs.size],_,_,H1,rfl,I1.kept (t':=s1.toks) λb o e=>aI _ e,ad9 a _,⟨_,bo _ rfl,rfl,rfl⟩,λb hb=>?_,q⟩;have e:b=s1.heap.objs.size:=by simpa using hb
 subst e;exact I1.fpOk (a9 _) (I1.hok.fresh (a9 _))
theorem aim{s:Shared}{lo hi:Int}{tk:Nat}(I:Inv X aA σ H s)(h1 : -(2^62)<=lo)(h2:lo<2^62)(h3 : -(2^62)<=hi)(h4:hi<2^62)
  (q:R (Itr lo (hi-lo).toNat) H):wpAny (model X.prog X.w) X.A (pyIter (.ref s.heap.objs.size)) (PIE X aA σ tg R) E {s with heap:=s.heap.push {cls:=.type "range",data:=.fields #[.int lo t,.int hi u,.int 1 v]},toks:=tk}:=by
 refine wpAny_pyIter_range (IsRange.new ..) (small_one h1 h2 h3 h4) ?_;have I1:Inv X aA σ H {s with heap:=s.heap.push {cls:=.type "range",data:=.fields #[.int lo t,.int hi u,.int 1 v]},toks:=tk}:=I.kept λb o e=>aI _ e
 refine⟨(s.heap.push {cls:=.type "range",data:=.fields #[.int lo t,.int hi u,.int 1 v]}).objs.size,[(s.heap.push {cls:=.type "range",data:=.fields #[.int lo t,.int hi u,.int 1 v]}).objs.size],_,_,H,rfl,
  I1.kept (t':=tk) λb o e=>aI _ e,ada _ lo (hi-lo).toNat,?_,λb hb=>?_,q⟩
 .have e1:lo+((0:Nat):Int)*1=lo:=by simp
  have e2:(((hi-lo).toNat:Nat):Int)-((0:Nat):Int)=Builtin.Range.rangeSize lo hi 1:=by rw[rangeSize_one];split<;>omega
  show IsRangeIter _ _ (lo+((0:Nat):Int)*1) ((((hi-lo).toNat:Nat):Int)-((0:Nat):Int)) 1;rw[e1,e2];exact bo _ rfl
 .have e:b=(s.heap.push {cls:=.type "range",data:=.fields #[.int lo t,.int hi u,.int 1 v]}).objs.size:=by simpa using hb
  subst e;exact I1.fpOk (a9 _) (I1.hok.fresh (a9 _))
noncomputable def axj(ta:TA):TI:=λσ H R=>ta σ H λvs H1=>∃j:Int,vs=[.int j] /\ -(2^62)<=j/\j<2^62/\R (Itr 0 j.toNat) H1
theorem aem{a:Expr}{ta:TA}{p pos:Pos}(hg:Gl X "range")(hm:X.mg "range" = none)(ha:PA X [a] ta)(hs:starEach [a] X.env=[(false,eval a X.env)]:=by rfl):PI X tg (.Call (.Name "range" p) [a] [] pos) (axj ta):=by
 intro aA s σ H R I h
 refine Call_ (abm I hg hm boot_range (fk (thn (ha pos aA s σ H _ I h) λus s1 ⟨vs,H1,I1,r1,q1⟩=>?_) hs rfl));obtain⟨j,e,q1,q2,q⟩:=q1;subst e
 cases r1 with
 |cons r rr =>
  cases rr
  obtain⟨t,rfl⟩:=r;exact call_range_1 (aim I1 (by omega) (by omega) q1 q2 (by simpa using q))
def b0f(wi:TI)(g:TG)(tb:TS):TS:=λD σ H=>wi σ H λJ H1=>∃W:Nat->Nat->St->Hp->Prop,(∃m,W 0 m σ H1)/\∀i m σ H,W i m σ H->
 (J.stop i H/\D.nx σ H)\/(J.go i H/\∃N:St->Hp->Prop,(∀σ' H',N σ' H'->∃m',m'<m/\W (i+1) m' σ' H')/\∀x H',J.yld i H x H'->g x σ H' λσ2 H2=>tb {D with nx:=N,ct:=N,bk:=D.nx} σ2 H2)
noncomputable def a0f(fp:List Addr)(h:Heap):List (Addr×Obj):=fp.filterMap λb=>(h.get? b).map λo=>(b,o)
theorem yz{h:Heap}(hb:b∈fp)(e:h.get? b=some o):(b,o)∈a0f fp h:=cX.mpr ⟨b,hb,by rw[e];rfl⟩
theorem a8c(hp:p∈a0f fp h):p.1∈fp/\h.get? p.1=some p.2:=by
 obtain⟨b,hb,e⟩:=cX.mp hp
 cases q:h.get? b with
 |none=>rw[q]at e;cases e
 |some o =>
  rw[q]at e;have e':(b,o)=p:=bJ e;subst e';exact⟨hb,q⟩
theorem Inv.pinned(I:Inv X aA σ H s)(hf:∀b∈fp,FpOk X aA H b)(ho:∀b∈fp,∃o,s.heap.get? b=some o/\∀v,o.data≠.cell v):Inv X (aA++a0f fp s.heap) σ H s :=
 I.pins_of λp hp=>(bb.mp hp).elim (λz=>I.pin p (br _ z)) λz=>by
  obtain⟨hb,e⟩:=a8c z;obtain⟨f0,f1,f2,_⟩:=hf p.1 hb;obtain⟨o,e',d⟩:=ho p.1 hb;rw[e]at e';cases e'
  exact⟨e,f0,f1,f2,d⟩
theorem Inv.unpinned(I:Inv X (aA++pl) σ H s):Inv X aA σ H s:=I.pins_of λp hp=>I.pin p (br _ (e9 _ hp))
theorem aru{aF:Expr}{body:List Stmt}{wi:TI}{g:TG}{tb:TS}{pos:Pos}(hp:PassesOwn (model X.prog X.w) X.A X.env X.xe)(hc:X.calm=true)(hi:PI X tg aF wi)(hg:PG X tg g)(hb:PSs X body tb)
  (hs:∀x,foldedSetIterable aF X.env x=pure x:=by intro _;rfl):PS X (.For tg aF body [] pos) (b0f wi g tb):=by
 intro aA s σ H D I h
 refine wpAny_For (thn (hi aA s σ H _ I h) λv s1 h1=>thn h1 λitv s2 h2=>?_) hs;obtain⟨it,fp,tn,J,H2,e,I2,T,st2,f2,W,⟨m0,w0⟩,turn⟩:=h2;subst e;have stat:∀{H':Hp},(∀b∈fp,H' b=none)->∀b∈fp,FpOk X aA H' b:=λhn b hb=>⟨hn b hb,(f2 b hb).2⟩;refine codeAny_forLoop_any (λn s'=>∃i σ' H',Inv X aA σ' H' s'/\tn i s'.heap/\(∀b∈fp,H' b=none)/\W i n σ' H') ?_ m0 ⟨0,σ,H2,I2,st2,λb hb=>(f2 b hb).1,w0⟩
 rintro n s3 ⟨i,σ3,H3,I3,st3,fr3,w3⟩
 rcases turn i n σ3 H3 w3 with⟨stop,qn⟩|⟨go,N,hN,step⟩
 .refine dA hp (thn (T.done X rfl rfl rfl hc i aA s3 σ3 H3 X.xe I3 (stat fr3) st3 stop) λr s4 ⟨hr,I4⟩=>?_);subst hr;exact dP ⟨σ3,H3,I4,qn⟩
 .refine dA hp (thn (T.item X rfl rfl rfl hc i aA s3 σ3 H3 X.xe I3 (stat fr3) st3 go) λr s4 ⟨u,hr,h4⟩=>?_);subst hr;refine dA hp (thn h4 λ_ s5 ⟨x,H5,I5,r5,y5,st5,fr5⟩=>?_);have I5':=I5.pinned (stat fr5) (T.obj _ _ st5);refine dA hp (thn (hg _ s5 σ3 H5 x u _ I5' r5 (step x H5 y5)) λ_ s6 ⟨σ6,H6,I6,q6⟩=>?_);refine dA hp (thn (hb _ s6 σ6 H6 _ I6 q6) λf s7 q7=>?_);have again:∀{σ7:St} {H7:Hp},Inv X (aA++a0f fp s5.heap) σ7 H7 s7->N σ7 H7->∃m,m<n/\∃i σ' H',Inv X aA σ' H' s7/\tn i s7.heap/\(∀b∈fp,H' b=none)/\W i m σ' H':=λ{σ7 H7} I7 n7=>by
   obtain⟨m',hm,w7⟩:=hN σ7 H7 n7;refine⟨m',hm,i+1,σ7,H7,I7.unpinned,T.keep _ _ _ st5 λb hb o e=>(I7.pin (b,o) (br _ (br _ (yz hb e)))).1,λb hb=>?_,w7⟩;obtain⟨o,e,d⟩:=T.obj _ _ st5 b hb;exact(I7.pin (b,o) (br _ (br _ (yz hb e)))).2.1
  cases f with
  |next=>obtain⟨σ7,H7,I7,n7⟩:=q7;exact again I7 n7
  |cont=>obtain⟨σ7,H7,I7,n7⟩:=q7;exact again I7 n7
  |brk=>obtain⟨σ7,H7,I7,q7⟩:=q7;exact⟨σ7,H7,I7.unpinned,q7⟩
  |ret v=>obtain⟨x7,σ7,H7,I7,r7,q7⟩:=q7;exact⟨x7,σ7,H7,I7.unpinned,r7,q7⟩
end
abbrev R2:=V->V->Hp->VK->Prop
def OpR(X:Cx)(f:Value->Value->Sem Value)(r:R2):Prop :=
 ∀(aA:List (Addr×Obj)) (s:Shared) (σ:St) (H:Hp) (x y:V) (v u:Value) (Q:VK),Inv X aA σ H s->RelV x v->RelV y u->r x y H Q->
  wpAny (model X.prog X.w) X.A (f v u) (EP X aA σ Q) X.xe s
def UnR(X:Cx)(f:Value->Sem Value)(r:V->Hp->VK->Prop):Prop :=
 ∀(aA:List (Addr×Obj)) (s:Shared) (σ:St) (H:Hp) (x:V) (v:Value) (Q:VK),Inv X aA σ H s->RelV x v->r x H Q->
  wpAny (model X.prog X.w) X.A (f v) (EP X aA σ Q) X.xe s
def CallR(X:Cx)(f:Value)(r:List V->Hp->VK->Prop):Prop :=
 ∀(aA:List (Addr×Obj)) (s:Shared) (σ:St) (H:Hp) (xs:List V) (us:List Value) (Q:VK),Inv X aA σ H s->Vals xs us->r xs H Q->
  wpAny (model X.prog X.w) X.A (call f us) (EP X aA σ Q) X.xe s
def b0g(X:Cx)(r:V->Hp->(Bool->Hp->Prop)->Prop):Prop :=
 ∀(aA:List (Addr×Obj)) (s:Shared) (σ:St) (H:Hp) (x:V) (v:Value) (Q:Bool->Hp->Prop),Inv X aA σ H s->RelV x v->r x H Q->
  wpAny (model X.prog X.w) X.A (truthy v) (TP X aA σ Q) X.xe s
noncomputable def tOp(r:R2)(ta tb:TE):TE:=λσ H Q=>ta σ H λx H1=>tb σ H1 λy H2=>r x y H2 Q
def tUn(r:V->Hp->VK->Prop)(ta:TE):TE:=λσ H Q=>ta σ H λx H1=>r x H1 Q
def rI(C:Int->Int->Prop)(g:Int->Int->V):R2:=λx y H Q=>∃i j,x=.int i/\y=.int j/\C i j/\Q (g i j) H
noncomputable def rI0(g:Int->Int->V):R2:=λx y H Q=>∃i j,x=.int i/\y=.int j/\Q (g i j) H
def rU(g:Int->V):V->Hp->VK->Prop:=λx H Q=>∃i,x=.int i/\Q (g i) H
section
variable{X:Cx}{a b c:Expr}{ta tb tc:TE}{pos:Pos}
theorem axk(ha:PE X a ta)(hb:PE X b tb){aA:List (Addr×Obj)}{s:Shared}{σ:St}{H:Hp}{R:V->V->Hp->Prop}(I:Inv X aA σ H s)
  (h:ta σ H λx H1=>tb σ H1 λy H2=>R x y H2) {Q:Value->Shared->Prop} {f:Value->Value->Sem Value}
  (hf:∀v u s2 x y H2,Inv X aA σ H2 s2->RelV x v->RelV y u->R x y H2->wpAny (model X.prog X.w) X.A (f v u) Q X.xe s2) :
  wpAny (model X.prog X.w) X.A (eval a X.env) (λv s₁=>wpAny (model X.prog X.w) X.A (eval b X.env) (λu s₂=>wpAny (model X.prog X.w) X.A (f v u) Q X.xe s₂) X.xe s₁) X.xe s:=by
 refine thn (ha aA s σ H _ I h) ?_
 rintro v s1 ⟨x,H1,I1,r1,q1⟩
 refine thn (hb aA s1 σ H1 _ I1 q1) ?_
 rintro u s2 ⟨y,H2,I2,r2,q2⟩
 exact hf v u s2 x y H2 I2 r1 r2 q2
theorem axl{op:Operator}{r:R2}(ho:OpR X (binaryOp op) r)(ha:PE X a ta)(hb:PE X b tb):PE X (.BinOp a op b pos) (tOp r ta tb):=by
 intro aA s σ H Q I h
 exact wpAny_BinOp (axk ha hb I h λv u s2 x y H2 I2 rx ry q=>ho aA s2 σ H2 x y v u Q I2 rx ry q)
theorem axm{op:UnaryOp}{r:V->Hp->VK->Prop}(ho:UnR X (unaryOp op) r)(ha:PE X a ta):PE X (.UnaryOp op a pos) (tUn r ta):=by
 intro aA s σ H Q I h
 exact UnaryOp_ (thn (ha aA s σ H _ I h) λv s1 ⟨x,H1,I1,r1,q1⟩=>ho aA s1 σ H1 x v Q I1 r1 q1)
theorem opI{f:Value->Value->Sem Value}{C:Int->Int->Prop}{g:Int->Int->Int}
  (rule:∀(i j:Int) (t u:Tok) (s:Shared) (Q:Value->Shared->Prop) (E:Value->Shared->Prop),C i j->Q (.int (g i j) s.toks) {s with toks:=s.toks+1}->wpAny (model X.prog X.w) X.A (f (.int i t) (.int j u)) Q E s) :
  OpR X f (rI C λi j=>.int (g i j)):=by
 intro aA s σ H x y v u Q I rx ry h
 obtain⟨i,j,rfl,rfl,hc,q⟩:=h;obtain⟨t,rfl⟩:=rx;obtain⟨t',rfl⟩:=ry;exact rule i j t t' s _ _ hc ⟨.int (g i j),H,I.tok _,⟨_,rfl⟩,q⟩
theorem awq{f:Value->Value->Sem Value}{g:Int->Int->Int}
  (rule:∀(i j:Int) (t u:Tok) (s:Shared) (Q:Value->Shared->Prop) (E:Value->Shared->Prop),Q (.int (g i j) s.toks) {s with toks:=s.toks+1}->wpAny (model X.prog X.w) X.A (f (.int i t) (.int j u)) Q E s) :
  OpR X f (rI0 λi j=>.int (g i j)):=by
 intro aA s σ H x y v u Q I rx ry h
 obtain⟨i,j,rfl,rfl,q⟩:=h;obtain⟨t,rfl⟩:=rx;obtain⟨t',rfl⟩:=ry;exact rule i j t t' s _ _ ⟨.int (g i j),H,I.tok _,⟨_,rfl⟩,q⟩
theorem awr{f:Value->Value->Sem Value}{g:Int->Int->Bool}
  (rule:∀(i j:Int) (t u:Tok) (s:Shared) (Q:Value->Shared->Prop) (E:Value->Shared->Prop),Q (.bool (g i j)) s->wpAny (model X.prog X.w) X.A (f (.int i t) (.int j u)) Q E s) :
  OpR X f (rI0 λi j=>.bl (g i j)):=by
 intro aA s σ H x y v u Q I rx ry h
 obtain⟨i,j,rfl,rfl,q⟩:=h;obtain⟨t,rfl⟩:=rx;obtain⟨t',rfl⟩:=ry;exact rule i j t t' s _ _ ⟨.bl (g i j),H,I,rfl,q⟩
def axn(i j:Int):Prop:=0<j/\j<1073741824
def azg(i j:Int):Prop:=0<=j/\j<=1000000/\i.natAbs<2^64
def CMul(i j:Int):Prop:=(-(2^64)<i/\i<2^64)\/(-(2^64)<j/\j<2^64)
theorem CMul.ok(h:CMul i j):IntMulOk i j:=by
 rcases h with⟨h1,h2⟩|⟨h1,h2⟩
 .exact .of_left (intBits_le_64 h1 h2)
 .exact .of_right (intBits_le_64 h1 h2)
theorem arv:OpR X (binaryOp .Add) (rI0 λi j=>.int (i+j)):=awq λ_ _ _ _ _ _ _ q=>add_int q
theorem arw:OpR X (binaryOp .Sub) (rI0 λi j=>.int (i-j)):=awq λ_ _ _ _ _ _ _ q=>sub_int q
theorem aen:OpR X (binaryOp .Mult) (rI CMul λi j=>.int (i*j)):=opI λ_ _ _ _ _ _ _ hc q=>mul_int q hc.ok
theorem anv:OpR X (binaryOp .FloorDiv) (rI axn λi j=>.int (i / j)):=opI λi j _ _ _ _ _ hc q=>by
 have h1:(0:Int)<j:=hc.1;have h2:j<1073741824:=hc.2;exact floordiv_int (by omega) (by rw[fB i (by omega)];exact q) (.inl (PyProof.noPylong_small (by omega)))
theorem arx:OpR X (binaryOp .Mod) (rI (λ_ j=>0<j) λi j=>.int (i%j)):=opI λi j _ _ _ _ _ hc q=>by
 have h1:(0:Int)<j:=hc;exact mod_int' (by omega) (by rw[Int.fmod_eq_emod_of_nonneg i (by omega)];exact q)
theorem arz:OpR X (binaryOp .Pow) (rI azg λi j=>.int (i^j.toNat)):=opI λ_ _ _ _ _ _ _ hc q=>pow_int_small hc.1 hc.2.1 hc.2.2 q
theorem aeo:OpR X (inplaceOp .Add) (rI0 λi j=>.int (i+j)):=awq λ_ _ _ _ _ _ _ q=>iadd_int q
theorem aep:OpR X (inplaceOp .Sub) (rI0 λi j=>.int (i-j)):=awq λ_ _ _ _ _ _ _ q=>isub_int q
theorem ain:OpR X (inplaceOp .FloorDiv) (rI axn λi j=>.int (i / j)):=opI λi j _ _ _ _ _ hc q=>by
 have h1:(0:Int)<j:=hc.1;have h2:j<1073741824:=hc.2;exact ifloordiv_int (by omega) (by rw[fB i (by omega)];exact q) (.inl (PyProof.noPylong_small (by omega)))
theorem unI{f:Value->Sem Value}{g:Int->Int}
  (rule:∀(i:Int) (t:Tok) (s:Shared) (Q:Value->Shared->Prop) (E:Value->Shared->Prop),Q (.int (g i) s.toks) {s with toks:=s.toks+1}->wpAny (model X.prog X.w) X.A (f (.int i t)) Q E s) :
  UnR X f (rU λi=>.int (g i)):=by
 intro aA s σ H x v Q I rx h
 obtain⟨i,rfl,q⟩:=h;obtain⟨t,rfl⟩:=rx;exact rule i t s _ _ ⟨.int (g i),H,I.tok _,⟨_,rfl⟩,q⟩
theorem as3:UnR X (unaryOp .USub) (rU λi=>.int (-i)):=unI λ_ _ _ _ _ q=>neg_int q
end
section
variable{X:Cx}{a b c:Expr}{ta tb tc:TE}{pos:Pos}
theorem a6r(I:Inv X aA σ H s)(q:Q (.bl k) H)(e:k=k'):EP X aA σ Q (.bool k') s:=by
 subst e;exact⟨.bl k,H,I,rfl,q⟩
theorem as4:OpR X (compareOp .Lt) (rI0 λi j=>.bl (decide (i<j))):=awr λ_ _ _ _ _ _ _ q=>lt_int q
theorem a8d:OpR X (compareOp .LtE) (rI0 λi j=>.bl (decide (i<=j))):=awr λ_ _ _ _ _ _ _ q=>le_int q
theorem as5:OpR X (compareOp .Gt) (rI0 λi j=>.bl (decide (j<i))):=awr λ_ _ _ _ _ _ _ q=>gt_int q
theorem axo:OpR X (compareOp .GtE) (rI0 λi j=>.bl (decide (j<=i))):=awr λ_ _ _ _ _ _ _ q=>ge_int q
theorem a8e:OpR X (compareOp .Lt) (λx y H Q=>∃i j,x=.str i/\y=.str j/\Q (.bl (decide (i.cps.toList<j.cps.toList))) H):=by
 intro aA s σ H x y v u Q I rx ry h
 obtain⟨i,j,rfl,rfl,q⟩:=h;obtain⟨t,rfl⟩:=rx;obtain⟨t',rfl⟩:=ry;exact lt_str (a6r I q rfl)
theorem aeq:OpR X (compareOp .In) (λx y H Q=>∃i j,x=.str i/\y=.str j/\Q (.bl (!(Builtin.Str.occurrences j i 0 j.length 1).isEmpty)) H):=by
 intro aA s σ H x y v u Q I rx ry h
 obtain⟨i,j,rfl,rfl,q⟩:=h;obtain⟨t,rfl⟩:=rx;obtain⟨t',rfl⟩:=ry;exact in_str (a6r I q rfl)
theorem as6:OpR X (compareOp .Is) (λx y H Q=>y=.non/\Q (.bl (decide (x=.non))) H):=by
 intro aA s σ H x y v u Q I rx ry h
 obtain⟨rfl,q⟩:=h;cases ry
 refine is_none_gen (a6r I q ?_)
 cases x<;>first
  |(cases rx;rfl)
  |(obtain⟨t,rfl⟩:=rx;rfl)
theorem a8f:OpR X (compareOp .NotIn) (λx y H Q=>∃i j,x=.str i/\y=.str j/\Q (.bl (!(!(Builtin.Str.occurrences j i 0 j.length 1).isEmpty))) H):=by
 intro aA s σ H x y v u Q I rx ry h
 obtain⟨i,j,rfl,rfl,q⟩:=h;obtain⟨t,rfl⟩:=rx;obtain⟨t',rfl⟩:=ry;exact notIn_str (a6r I q rfl)
theorem OpR.or(h:OpR X f r)(h':OpR X f r'):OpR X f (λx y H Q=>r x y H Q\/r' x y H Q):=by
 intro aA s σ H x y v u Q I rx ry q
 rcases q with q|q
 .exact h aA s σ H x y v u Q I rx ry q
 .exact h' aA s σ H x y v u Q I rx ry q
theorem a4q(b:Expr)(h:op≠.In:=by decide)(h2:op≠.NotIn:=by decide):behindInMarks op b=false:=by
 have e1:(op == CmpOp.In)=false:=by cases op<;>first|rfl|exact absurd rfl h
 have e2:(op == CmpOp.NotIn)=false:=by cases op<;>first|rfl|exact absurd rfl h2
 cases b<;>simp[behindInMarks,e1,e2]
theorem anw(ho:OpR X (compareOp op) r)(ha:PE X a ta)(hb:PE X b tb)(hm:behindInMarks op b=false):PE X (.Compare a [op] [b] pos) (tOp r ta tb):=by
 intro aA s σ H Q I h
 exact wpAny_Compare1 (axk ha hb I h λv u s2 x y H2 I2 rx ry q=>ho aA s2 σ H2 x y v u Q I2 rx ry q) hm
noncomputable def aio(t:TE):TT:=λσ H Q=>t σ H λx H'=>∃k,x=.bl k/\Q k H'
theorem anx{op:CmpOp}{r:R2}(ho:OpR X (compareOp op) r)(ha:PE X a ta)(hb:PE X b tb)(hm:behindInMarks op b=false):PT X (.Compare a [op] [b] pos) (aio (tOp r ta tb)):=by
 intro aA s σ H Q I h
 refine wpAny_isTrue_Compare1 (thn (ha aA s σ H _ I h) λv s1 ⟨x,H1,I1,r1,q1⟩=>thn (hb aA s1 σ H1 _ I1 q1) λu s2 ⟨y,H2,I2,r2,q2⟩ =>
  thn (ho aA s2 σ H2 x y v u _ I2 r1 r2 q2) λc s3 ⟨z,H3,I3,r3,k,e,q3⟩=>?_) hm
 subst e;cases r3
 exact bS ⟨H3,I3,q3⟩
noncomputable def aer(r r':R2)(ta tb tc:TE):TE:=λσ H Q=>ta σ H λx H1=>tb σ H1 λy H2=>r x y H2 λz H3=>∃k,z=.bl k /\
 (if k=true then tc σ H3 λw' H4=>r' y w' H4 Q else Q (.bl false) H3)
theorem aip{op op':CmpOp}{r r':R2}(ho:OpR X (compareOp op) r)(ho':OpR X (compareOp op') r')(ha:PE X a ta)(hb:PE X b tb)(hc:PE X c tc)
  (hm:lastMarks [op,op'] [b,c]=false:=by with_unfolding_all rfl):PE X (.Compare a [op,op'] [b,c] pos) (aer r r' ta tb tc):=by
 intro aA s σ H Q I h
 refine Compare_chain (thn (ha aA s σ H _ I h) λv s1 ⟨x,H1,I1,r1,q1⟩=>chain_link (thn (hb aA s1 σ H1 _ I1 q1) λu s2 ⟨y,H2,I2,r2,q2⟩ =>
  thn (ho aA s2 σ H2 x y v u _ I2 r1 r2 q2) λd s3 ⟨z,H3,I3,r3,k,e,q3⟩=>?_)) hm
 subst e;cases r3
 refine bS ?_
 cases k with
 |false=>exact ite_ff ⟨.bl false,H3,I3,rfl,q3⟩
 |true=>exact ite_tt (chain_last (thn (hc aA s3 σ H3 _ I3 q3) λw' s4 ⟨z',H4,I4,r4,q4⟩=>ho' aA s4 σ H4 y z' u w' Q I4 r2 r4 q4))
theorem aiq{op op':CmpOp}{r r':R2}(ho:OpR X (compareOp op) r)(ho':OpR X (compareOp op') r')(ha:PE X a ta)(hb:PE X b tb)(hc:PE X c tc)
  (hm:lastMarks [op,op'] [b,c]=false:=by with_unfolding_all rfl):PT X (.Compare a [op,op'] [b,c] pos) (aio (aer r r' ta tb tc)):=by
 intro aA s σ H Q I h
 refine isTrue_chain (thn (ha aA s σ H _ I h) λv s1 ⟨x,H1,I1,r1,q1⟩=>test_link (thn (hb aA s1 σ H1 _ I1 q1) λu s2 ⟨y,H2,I2,r2,q2⟩ =>
  thn (ho aA s2 σ H2 x y v u _ I2 r1 r2 q2) λd s3 ⟨z,H3,I3,r3,k,e,q3⟩=>?_)) hm
 subst e;cases r3
 refine bS ?_
 cases k with
 |false =>
  obtain⟨k',e',q'⟩:=q3
  cases e'
  exact ite_ff ⟨H3,I3,q'⟩
 |true =>
  refine ite_tt (test_last (thn (hc aA s3 σ H3 _ I3 q3) λw' s4 ⟨z',H4,I4,r4,q4⟩=>thn (ho' aA s4 σ H4 y z' u w' _ I4 r2 r4 q4) λd' s5 ⟨z2,H5,I5,r5,k2,e2,q5⟩=>?_));subst e2;cases r5
  exact bS ⟨H5,I5,q5⟩
def axp(K:Fg)(x:V)(H:Hp)(k:Bool):Prop :=
 match x with
 |.non=>k=false
 |.bl b=>k=b
 |.int i=>k=(i != 0)
 |.str y=>y.length<=sizeLine/\k=((y.length:Int) != 0)
 |.byt y=>y.size<=sizeLine/\k=((y.size:Int) != 0)
 |.ref p=>(∃xs,SqL K H p xs/\k = !xs.isEmpty)\/(∃xs,SqT K H p xs/\k = !xs.isEmpty)\/∃kvs,H p=some (.dK kvs)/\k = !kvs.isEmpty
 |_=>False
theorem adb{κ:Type}{kvs:List (κ×V)}{vs:List (κ×Value)}(r:KV kvs vs):(!vs.isEmpty) = !kvs.isEmpty:=by
 cases r<;>rfl
theorem a6s(r:Vals xs its):(!its.toArray.isEmpty) = !xs.isEmpty:=by
 cases r<;>simp
theorem a4r:(sizeLine:Nat)<2^63:=by rw[fO];decide
theorem as7:b0g X (λx H Q=>∃k,axp X.K x H k/\Q k H):=by
 intro aA s σ H x v Q I rx h
 obtain⟨k,e,q⟩:=h;have hl:=a4r;have hs:sizeLine=16777216:=fO
 cases x with
 |non =>
  cases rx
  have e':k=false:=e;subst e';exact truthy_none ⟨H,I,q⟩
 |bl b =>
  cases rx
  have e':k=b:=e;subst e';exact bS ⟨H,I,q⟩
 |int i =>
  obtain⟨t,rfl⟩:=rx;have e':k=(i != 0):=e;subst e';exact PySem.P.truthy_int ⟨H,I,q⟩
 |str y =>
  obtain⟨t,rfl⟩:=rx;obtain⟨hy,e'⟩:y.length<=sizeLine/\k=((y.length:Int) != 0):=e;subst e';exact PySem.P.truthy_str (by omega) ⟨H,I.tok _,q⟩
 |byt y =>
  obtain⟨t,rfl⟩:=rx;obtain⟨hy,e'⟩:y.size<=sizeLine/\k=((y.size:Int) != 0):=e;subst e';exact PySem.W.truthy_bytes (by omega) ⟨H,I.tok _,q⟩
 |ref p =>
  cases rx
  have e':(∃xs,SqL X.K H p xs/\k = !xs.isEmpty)\/(∃xs,SqT X.K H p xs/\k = !xs.isEmpty)\/∃kvs,H p=some (.dK kvs)/\k = !kvs.isEmpty:=e
  rcases e' with⟨xs,hx,e'⟩|⟨xs,hx,e'⟩|⟨kvs,hx,e'⟩
  .subst e';obtain⟨its,r,pl,hz⟩:=I.list hx;have aH:=r.length;exact wpAny_truthy_list pl.isList (by simp only[aw];omega) ⟨H,I.tok _,by rw[a6s r];exact q⟩
  .subst e';obtain⟨its,r,pl,hz⟩:=I.tuple hx;have aH:=r.length;exact truthy_tuple pl (by simp only[aw];omega) ⟨H,I.tok _,by rw[a6s r];exact q⟩
  .subst e';obtain⟨hz,hS,vs,r,m⟩:kvs.length<=sizeLine/\(p == sysModules)=false/\∃vs,KV kvs vs/\s.heap.DictOf (a5h X.prog X.w) p vs:=I.hok p _ hx;have aH:kvs.length=vs.length:=Paired.length r;exact wpAny_truthy_dict hS m (by omega) ⟨H,I.tok _,by rw[adb r];exact q⟩
 |_=>exact(show False from e).elim
theorem ais(ha:PE X a ta)(he:∀whole,isTrue a X.env whole=(do let v <-whole;standAt a.pos;holding [v] (truthy v))) :
  PT X a (λσ H Q=>ta σ H λx H'=>∃k,axp X.K x H' k/\Q k H'):=by
 intro aA s σ H Q I h
 exact isTrue_plain (thn (ha aA s σ H _ I h) λv s1 ⟨x,H1,I1,r1,q1⟩=>as7 aA s1 σ H1 x v Q I1 r1 q1) (he _)
theorem adc:OpR X (binaryOp .Add) (λx y H Q=>∃i j,x=.str i/\y=.str j/\i.length+j.length<=sizeLine/\Q (.str (i++j)) H):=by
 intro aA s σ H x y v u Q I rx ry h
 obtain⟨i,j,rfl,rfl,hz,q⟩:=h;obtain⟨t,rfl⟩:=rx;obtain⟨t',rfl⟩:=ry;exact add_str (λt' tk=>⟨.str (i++j),H,I.tok _,⟨_,rfl⟩,q⟩) hz
theorem a5i:OpR X (inplaceOp .Add) (λx y H Q=>∃i j,x=.str i/\y=.str j/\i.length+j.length<=sizeLine/\Q (.str (i++j)) H):=by
 intro aA s σ H x y v u Q I rx ry h
 obtain⟨i,j,rfl,rfl,hz,q⟩:=h;obtain⟨t,rfl⟩:=rx;obtain⟨t',rfl⟩:=ry;exact iadd_str (λt' tk=>⟨.str (i++j),H,I.tok _,⟨_,rfl⟩,q⟩) hz
theorem vals1(r:Vals [x] us):∃u,us=[u]/\RelV x u:=by
 cases r with
 |cons r1 r2=>cases r2;exact⟨_,rfl,r1⟩
theorem vals2(r:Vals [x,y] us):∃u w',us=[u,w']/\RelV x u/\RelV y w':=by
 cases r with
 |cons r1 r2 =>
  cases r2 with
  |cons r3 r4=>cases r4;exact⟨_,_,rfl,r1,r3⟩
theorem ait:CallR X (.builtin "abs") (λxs H Q=>∃i,xs=[.int i]/\Q (.int (if i<0 then -i else i)) H):=by
 intro aA s σ H xs us Q I r h
 obtain⟨i,rfl,q⟩:=h;obtain⟨u,rfl,t,rfl⟩:=vals1 r;exact call_abs_int λu tk=>⟨.int (if i<0 then -i else i),H,I.tok _,⟨_,rfl⟩,q⟩
theorem aes(hc:X.calm=true):CallR X (.builtin "max") (λxs H Q=>∃i j,xs=[.int i,.int j]/\Q (.int (if j > i then j else i)) H):=by
 intro aA s σ H xs us Q I r h
 obtain⟨i,j,rfl,q⟩:=h;obtain⟨u,w',rfl,⟨t,rfl⟩,⟨t',rfl⟩⟩:=vals2 r;refine max_two_ints (I.ok.hd hc) λh' tk k=>⟨_,H,I.kept k,?_,q⟩
 by_cases hj:j > i
 .rw[av hj,av hj];exact⟨_,rfl⟩
 .rw[aO hj,aO hj];exact⟨_,rfl⟩
theorem aet:CallR X (.type "int") (λxs H Q=>(∃i,xs=[.int i]/\Q (.int i) H)\/∃k,xs=[.bl k]/\Q (.int (if k then 1 else 0)) H):=by
 intro aA s σ H xs us Q I r h
 rcases h with⟨i,rfl,q⟩|⟨k,rfl,q⟩
 .obtain⟨u,rfl,t,rfl⟩:=vals1 r;exact call_int_int ⟨.int i,H,I,⟨_,rfl⟩,q⟩
 .obtain⟨u,rfl,r1⟩:=vals1 r;cases r1
  exact call_int_bool ⟨.int (if k then 1 else 0),H,I.tok _,⟨_,rfl⟩,q⟩
theorem aiu:CallR X (.builtin "ord") (λxs H Q=>∃x,xs=[.str x]/\x.length=1/\Q (.int (x.cps.getD 0 0:Nat)) H):=by
 intro aA s σ H xs us Q I r h
 obtain⟨x,rfl,hz,q⟩:=h;obtain⟨u,rfl,t,rfl⟩:=vals1 r;exact ord_of_one hz ⟨.int _,H,I.tok _,⟨_,rfl⟩,q⟩
end
structure ObjM (h:Heap) (x dx C:Addr) (mA:Str->Option Value):Prop where
 obj:h.get? x=some (PySem.W.instObj C dx)
 ns:h.Ns1 dx mA
 ne:dx≠x
theorem aeu{h:Heap}(n:h.Ns1 dx mA):∃od,h.get? dx=some od/\∀name,PySem.W.lookIn name od=some (mA name):=by
 obtain⟨o,es,ep,ho,hd,hk,_,hm⟩:=n;refine⟨o,ho,λname=>?_⟩;have e:=hm name;unfold nsFind findBy at e;rw[<-Array.find?_toList]at e;unfold PySem.W.lookIn;rw[hd];dsimp only
 split
 .rename_i y q;rw[q]at e;exact ah some e
 .rename_i q;rw[q]at e;have a:es.toList.any (·.refKey)=false:=by
   rw[List.any_eq_false]
   intro y hy
   obtain⟨z,t,hkey⟩:=hk y (Array.mem_toList_iff.mp hy);simp[DictEntry.refKey,hkey]
  have a':¬ es.toList.any (·.refKey)=true:=by rw[a];exact aU
  rw[aO a'];exact ah some e
theorem ObjM.look(I:ObjM h x dx C mA):∃od,PySem.W.InstAt h x (PySem.W.instObj C dx) C (some od)/\∀name,PySem.W.lookIn name od=some (mA name) :=
 let ⟨od,ho,hl⟩:=aeu I.ns
 ⟨od,⟨I.obj,rfl,rfl,ho⟩,hl⟩
section
variable{P:Program}{w:World}{H H':Hp}{h h':Heap}{a C dx:Addr}{fs fs':List (Str×V)}
theorem anz(hok:HOk P w H h)(e:H a=some (.ins C dx fs)):∃mA,ObjM h a dx C mA/\(∀f,ax8 (fs.lookup f) (mA f))/\PySem.Within mA (fs.map (·.1))/\fs.length<=1000/\H dx=some (.own a):=by
 obtain⟨d,z,ne,ob,mA,n,r,q⟩:=(show ObjOk P w H h a (.ins C dx fs) from hok a _ e)
 exact⟨mA,⟨ob,n,ne⟩,r,q,z,d⟩
end
structure Cls (K:Fg) (C:Addr):Prop where
 pg:PySem.W.plainGet K C Str.empty=true
 hd:PySem.W.hasDictIn K C=true
 po:PySem.W.plainOver K C=true
 sa:PySem.W.findIn K (.ref C) "__setattr__" = some (some (.builtin "object.__setattr__"))
theorem Cls.get{K:Fg}{C:Addr}(c:Cls K C)(f:Str):PySem.W.plainGet K C f=true:=c.pg
section
variable{X:Cx}{aA:List (Addr×Obj)}{σ:St}{H:Hp}{s:Shared}{A:Around}{E:Value->Shared->Prop}{Q:Value->Shared->Prop}{c:Value}{b:Bool}
inductive TyOf (K:Fg) (H:Hp):V->Value->Prop where
 |non:TyOf K H .non (.type "NoneType")
 |bl (x:Bool):TyOf K H (.bl x) (.type "bool")
 |int (i:Int):TyOf K H (.int i) (.type "int")
 |str (x:Str):TyOf K H (.str x) (.type "str")
 |flt (x:UInt64):TyOf K H (.flt x) (.type "float")
 |lst {a:Addr} {xs:List V} (e:H a=some (.lst xs)):TyOf K H (.ref a) (.type "list")
 |frz {a:Addr} {o:Obj} {xs:List V} (e:H a=some (.frz o (.lst xs))):TyOf K H (.ref a) (.type "list")
 |tup {a:Addr} {xs:List V} (e:H a=some (.tup xs)):TyOf K H (.ref a) (.type "tuple")
 |dK {a:Addr} {kvs:List (Key×V)} (e:H a=some (.dK kvs)):TyOf K H (.ref a) (.type "dict")
 |dT {a:Addr} {kvs:List (List Key×V)} (e:H a=some (.dT kvs)):TyOf K H (.ref a) (.type "dict")
 | ins {a C dx:Addr} {fs:List (Str×V)} (e:H a=some (.ins C dx fs)) (cl:Cls K C) (ha:PySem.W.findIn K (.ref C) "__class__" = some (some (.builtin "object.__class__")))
   (hn:PySem.W.specialIn K (.builtin "object.__class__") "__get__" = some (some (.builtin "getset_descriptor.__get__"))) (htk:PySem.W.takesIn K (.builtin "object.__class__")=some true)
   (hm:PySem.W.mroIn K C (.type "object")=some true):TyOf K H (.ref a) (.ref C)
theorem aev(I:Inv X aA σ H s)(rx:RelV x u)(ty:TyOf X.K H x t)(e:PySem.W.kitOne X.K t c=some b)(h:∀tk,Q (.bool b) {s with toks:=tk}) :
  wpAny (model X.prog X.w) A (call (.builtin "isinstance") [u,c]) Q E s:=by
 cases ty with
 |non=>cases (show u=Value.none from rx);exact bR PySem.W.kitx_none I.kIn True.intro e (λz=>nomatch z) h
 |bl y=>cases (show u=Value.bool y from rx);exact bR PySem.W.kitx_bool I.kIn True.intro e (λz=>nomatch z) h
 |int i=>obtain⟨t,q⟩:=(show ∃t,u=Value.int i t from rx);cases q;exact bR PySem.W.kitx_int I.kIn True.intro e (λz=>nomatch z) h
 |str y=>obtain⟨t,q⟩:=(show ∃t,u=Value.str y t from rx);cases q;exact bR PySem.W.kitx_str I.kIn True.intro e (λz=>nomatch z) h
 |flt y=>obtain⟨t,q⟩:=(show ∃t,u=Value.float y t from rx);cases q;exact bR PySem.W.kitx_float I.kIn True.intro e (λz=>nomatch z) h
 |@lst a xs ea =>
  cases (show u=Value.ref a from rx)
  obtain⟨_,_,n,_,h1⟩:=(show ObjOk X.prog X.w H s.heap a (.lst xs) from I.hok a _ ea)
  exact bR PySem.W.kitx_list I.kIn ⟨_,h1,rfl⟩ e (λz=>nomatch z) h
 |@frz a ob xs ea =>
  cases (show u=Value.ref a from rx)
  obtain⟨_,_,_,n,_,h1⟩:=(show ObjOk X.prog X.w H s.heap a (.frz ob (.lst xs)) from I.hok a _ ea)
  exact bR PySem.W.kitx_list I.kIn ⟨_,h1,rfl⟩ e (λz=>nomatch z) h
 |@tup a xs ea =>
  cases (show u=Value.ref a from rx)
  obtain⟨_,_,_,p⟩:=(show ObjOk X.prog X.w H s.heap a (.tup xs) from I.hok a _ ea)
  obtain⟨o,h1,h2,_⟩:=p;exact bR PySem.W.kitx_tuple I.kIn ⟨o,h1,h2.1⟩ e (λz=>nomatch z) h
 |@dK a kvs ea =>
  cases (show u=Value.ref a from rx)
  obtain⟨_,_,vs,_,p⟩:=(show ObjOk X.prog X.w H s.heap a (.dK kvs) from I.hok a _ ea)
  obtain⟨o,es,ep,h1,h2,_⟩:=p;exact bR fJ I.kIn ⟨o,h1,h2.1⟩ e (λz=>nomatch z) h
 |@dT a kvs ea =>
  cases (show u=Value.ref a from rx)
  obtain⟨_,_,xs,_,o,es,ep,h1,h2,_⟩:=(show ObjOk X.prog X.w H s.heap a (.dT kvs) from I.hok a _ ea)
  exact bR fJ I.kIn ⟨o,h1,h2.1⟩ e (λz=>nomatch z) h
 |@ins a C dx fs ea cl ha hn htk hm =>
  cases (show u=Value.ref a from rx)
  obtain⟨mA,O,_⟩:=anz I.hok ea;obtain⟨od,J,_⟩:=O.look;exact bR (PySem.W.kitx_own (cl.get _) cl.hd ha hn htk hm) I.kIn J e (λz=>nomatch z) h
end
structure Room (k:Nat) (A:Around):Prop where
 hd:A.handled=none
 dp:A.depth+3*k+5<recursionLimit
 un:A.units+16*k+200<cLine
 gd:A.guards=some []
theorem Room.mono(r:Room k A)(h:j<=k):Room j A:=⟨r.hd,by have:=r.dp;omega,by have:=r.un;omega,r.gd⟩
theorem Room.deeper(r:Room (k+1) A)(env:Env):Room k (A.deeper env) :=
 ⟨r.hd,by have:=r.dp;show A.depth+1+3*k+5<_;omega,by have:=r.un;show A.units+3+16*k+200<_;omega,r.gd⟩
theorem Room.depth(r:Room k A):A.depth<recursionLimit:=by have:=r.dp;omega
theorem Room.units(r:Room k A):A.units+64<cLine:=by have:=r.un;omega
def azh:TA:=λ_ H Q=>Q [] H
noncomputable def axq(ta:TE)(tr:TA):TA:=λσ H Q=>ta σ H λx H1=>tr σ H1 λxs H2=>Q (x::xs) H2
section
variable{X:Cx}{e:Expr}{es:List Expr}{te:TE}{t:TA}{pos:Pos}
theorem a4s:PA X [] azh:=λ_ _ _ _ H Q I h=>Calls.spliced_nil ⟨[],H,I,.nil,h⟩
theorem uo(ha:PE X e te)(hr:PA X es t)(hs:starEach (e::es) X.env=(false,eval e X.env)::starEach es X.env:=by rfl):PA X (e::es) (axq te t):=by
 intro pos aA s σ H Q I h
 rw[hs];show wpAny _ _ (spliced ((false,eval e X.env)::backTo pos (starEach es X.env))) _ _ s;refine Calls.spliced_cons (thn (ha aA s σ H _ I h) λu s1 ⟨x,H1,I1,r1,q1⟩=>?_);exact thn (hr pos aA s1 σ H1 _ I1 q1) λus s2 ⟨xs,H2,I2,r2,q2⟩=>⟨x::xs,H2,I2,.cons r1 r2,q2⟩
noncomputable def b0h(t:TA):TE:=λσ H Q=>t σ H λxs H1=>xs.length<=sizeLine/\∀p,H1 p=none->Q (.ref p) (upd H1 p (.tup xs))
noncomputable def b0i(t:TA):TE:=λσ H Q=>t σ H λxs H1=>xs.length<=sizeLine/\∀p,H1 p=none->Q (.ref p) (upd H1 p (.lst xs))
theorem alx{x1}(h:PA X es t):PE X (.Tuple es x1 pos) (b0h t):=by
 intro aA s σ H Q I hq
 refine wpAny_Tuple_spliced (thn (h pos aA s σ H _ I hq) λus s1 ⟨xs,H1,I1,r,z,q⟩=>⟨by rw[<-r.length];exact z,?_⟩)
 have hf:H1 s1.heap.objs.size=none:=I1.hok.fresh (a9 _);refine⟨.ref s1.heap.objs.size,upd H1 s1.heap.objs.size (.tup xs),I1.laid (t':=s1.toks) (λb u e=>aI _ e) (a9 _) ?_,rfl,q _ hf⟩;exact⟨z,us,r,⟨_,bo _ rfl,⟨rfl,rfl⟩,_,rfl⟩⟩
theorem as8(h:PA X es t):PE X (.List es pos) (b0i t):=by
 intro aA s σ H Q I hq
 refine wpAny_List_spliced (thn (h pos aA s σ H _ I hq) λus s1 ⟨xs,H1,I1,r,z,q⟩=>⟨by rw[<-r.length];exact z,?_⟩)
 have hf:H1 s1.heap.objs.size=none:=I1.hok.fresh (a9 _);refine⟨.ref s1.heap.objs.size,upd H1 s1.heap.objs.size (.lst xs),I1.laid (t':=s1.toks) (λb u e=>aI _ e) (a9 _) ?_,rfl,q _ hf⟩;exact⟨z,us,0,r,bo _ rfl⟩
end
abbrev Sp:=List V->Hp->VK->XK->Prop
abbrev CXT:=List Env->Hp->Shared->XK->Value->Shared->Prop
structure Env0 (P:Program) (w:World) (K:Fg) (mg:Str->Option Value) (base:Heap) (A:Around) (outer:List Env) (s:Shared) (H:Hp):Prop where
 frames:A.frames=some outer
 mod:Mod K mg base
 bs:∀b o,base.get? b=some o->s.heap.get? b=some o/\H b=none
 bsz:base.objs.size<=s.heap.objs.size
 funs:s.heap.FunFrames base outer
 frf:∀b∈frs outer,H b=none
 hok:HOk P w H s.heap
 bare:AllBare s.gens
def CE(outer:List Env)(P:Program)(w:World)(H:Hp)(s:Shared)(Q:VK)(u:Value)(s':Shared):Prop :=
 ∃v H',s'.os=s.os/\AllBare s'.gens/\Un (frs outer) [] H H' s.heap s'.heap/\HOk P w H' s'.heap/\RelV v u/\Q v H'
def CR(CX:CXT)(outer:List Env)(P:Program)(w:World)(H:Hp)(s:Shared)(Q:VK)(E:XK)(r:Result)(s':Shared):Prop :=
 match r with
 |.ok (.ret u)=>CE outer P w H s Q u s'
 |.ok _=>False
 |.error e=>CX outer H s E e s'
structure FnOk (P:Program) (w:World) (K:Fg) (mg:Str->Option Value) (base:Heap) (CX:CXT) (k:Nat) (f:Addr) (fd:FuncData) (ps:List Str) (sp:Sp):Prop where
 len:∀vs H Q E,sp vs H Q E->vs.length=ps.length
 run:∀(A:Around) (outer:List Env) (s:Shared) (H:Hp) (args:Args) (us:List Value) (vs:List V) (Q:VK) (E:XK),Room k A->Env0 P w K mg base A outer s H->BindsTo s fd args (ps.zip us)->Vals vs us->sp vs H Q E->
  codeAny (model P w) A (.call (.ref f) args) (CR CX outer P w H s Q E) s
theorem FnOk.imp{P:Program}{w:World}{K:Fg}{mg:Str->Option Value}{base:Heap}{CX:CXT}{k:Nat}{f:Addr}{fd:FuncData}{ps:List Str}{sp sp':Sp}(F:FnOk P w K mg base CX k f fd ps sp)
  (h:∀vs H Q E,sp' vs H Q E->sp vs H Q E):FnOk P w K mg base CX k f fd ps sp' :=
 ⟨λvs H Q E q=>F.len vs H Q E (h _ _ _ _ q),λA outer s H args us vs Q E hr he hb hv hs=>F.run A outer s H args us vs Q E hr he hb hv (h _ _ _ _ hs)⟩
section
variable{X:Cx}{aA:List (Addr×Obj)}{σ:St}{H:Hp}{s s':Shared}
theorem Inv.env0(I:Inv X aA σ H s):Env0 X.prog X.w X.K X.mg X.base X.A X.stack s H :=
 ⟨I.ok.frames,I.ok.mod,I.bs,bE I.ok.bsz I.sz,I.stack,I.stkFree,I.hok,I.bare⟩
theorem Inv.after(I:Inv X aA σ H s)(h:CE X.stack X.prog X.w H s Q u s'):EP X aA σ Q u s':=by
 obtain⟨v,H',os,bare,un,hok,r,q⟩:=h;obtain⟨hh,g,d,t,os'⟩:=s';obtain rfl:os'=s.os:=os;exact⟨v,H',I.call (h':=hh) (g':=g) (d':=d) (t':=t) (ch:=[]) un hok bare (λb z=>absurd z (by simp)),r,q⟩
end
noncomputable def as9(sp:Sp)(dvs:List V)(E:XK)(t:TA):TE:=λσ H Q=>t σ H λvs H1=>sp (vs++dvs) H1 Q E
def Binds(K:Fg)(fd:FuncData)(ps:List Str)(ds:List Value):Prop :=
 ∀(s:Shared) (us:List Value),K.In s.heap->(us++ds).length=ps.length->BindsTo s fd ⟨us,[]⟩ (ps.zip (us++ds))
theorem Binds.all{K:Fg}{fd:FuncData}{ps:List Str}(h:∀us:List Value,us.length=ps.length->bindArgs fd ⟨us,[]⟩=pure (ps.zip us)):Binds K fd ps []:=λs us _ hl=>by
 rw[bX]at hl ⊢;exact .of_eq (h us hl)
def abn(CX:CXT)(X:Cx)(E:XK):Prop:=∀(aA:List (Addr×Obj)) (σ:St) (H:Hp) (s:Shared) (e:Value) (s':Shared),Inv X aA σ H s->CX X.stack H s E e s'->X.xe e s'
section
variable{X:Cx}{CX:CXT}{k:Nat}{f C:Addr}{fd:FuncData}{ps:List Str}{sp:Sp}{dvs:List V}{ds:List Value}{E:XK}{x m:Str}{p pos apos:Pos}{e o:Expr}{es:List Expr}{ta:TE}{t:TA}
theorem aly(F:FnOk X.prog X.w X.K X.mg X.base CX k f fd ps sp)(hr:Room k X.A)(hb:Binds X.K fd ps ds)(hd:Vals dvs ds)(hx:abn CX X E)
  (I:Inv X aA σ H s) (r:Vals vs us) (h:sp (vs++dvs) H Q E):wpAny (model X.prog X.w) X.A (call (.ref f) us) (EP X aA σ Q) X.xe s:=by
 have r2:Vals (vs++dvs) (us++ds):=r.append hd;have hl:(us++ds).length=ps.length:=by rw[<-r2.length];exact F.len _ _ _ _ h
 refine wpAny_call (eR (F.run X.A X.stack s H ⟨us,[]⟩ (us++ds) (vs++dvs) Q E hr I.env0 (hb s us I.kIn hl) r2 h) λr s' hq=>?_)
 cases r with
 |error e=>exact hx aA σ H s e s' I hq
 |ok fl =>
  cases fl with
  |ret u=>exact I.after hq
  |next=>exact False.elim hq
  |brk=>exact False.elim hq
  |cont=>exact False.elim hq
theorem aew(F:FnOk X.prog X.w X.K X.mg X.base CX k f fd ps sp)(hr:Room k X.A)(hg:Gl X x)(hm:X.mg x=some (.ref f))(hk:PySem.W.keepIn X.K (.ref f)=true)(hb:Binds X.K fd ps ds)(hd:Vals dvs ds)(hx:abn CX X E)
  (ha:PA X (e::es) t) (hdb:(x == ("__debug__" : Str))=false:=by decide) (he:starEach (e::es) X.env=(false,eval e X.env)::starEach es X.env:=by rfl) (hpl:(backTo pos (starEach es X.env)).any (·.1)=false:=by rfl) :
  PE X (.Call (.Name x p) (e::es) [] pos) (as9 sp dvs E t):=by
 intro aA s σ H Q I h
 refine dO (a4c I hg hm ?_ hdb);refine PySem.W.callWith_K (h₀:=X.base) I.ok.mod.kin hk (thn (ha pos aA s σ H _ I h) λus s1 ⟨vs,H1,I1,r,q⟩=>⟨I1.kIn,?_⟩) he hpl;exact aly F hr hb hd hx I1 r q
theorem aiv(F:FnOk X.prog X.w X.K X.mg X.base CX k f fd ps sp)(hr:Room k X.A)(hg:Gl X x)(hm:X.mg x=some (.ref f))(hk:PySem.W.keepIn X.K (.ref f)=true)(hb:Binds X.K fd ps ds)(hd:Vals dvs ds)(hx:abn CX X E)
  (hdb:(x == ("__debug__" : Str))=false:=by decide):PE X (.Call (.Name x p) [] [] pos) (as9 sp dvs E azh):=by
 intro aA s σ H Q I h
 refine dO (a4c I hg hm ?_ hdb);exact PySem.W.callWith_K0 I.kIn hk (aly (us:=[]) F hr hb hd hx I .nil h)
end
structure FnScope (N P:List Str) (sc:Scope):Prop where
 kind:sc.kind=.function
 co:sc.isCoroutine=false
 gen:sc.isGenerator=false
 nd:N.Nodup
 pre:N.take P.length=P
 par:∀x∈P,sc.names.lookup x=some .local\/sc.names.lookup x=some .cell
 nofree:∀y∈sc.names,y.2≠.free
theorem a8g{kindOf:Str->Option NameKind}{x:Str}:∀{binds:List (Str×Value)} {m:Str->Option Value},(∀v,(x,v)∉binds)->bindL kindOf binds m x=m x
 |[],_,_=>rfl
 |(n,v)::r,m,h=>by
  unfold bindL;rw[a8g λw hw=>h w (aQ _ hw)]
  split
  .have:x≠n:=by rintro rfl;exact h v aY
   simp[this]
  .rfl
theorem a8h{kindOf:Str->Option NameKind}{x:Str}:∀{binds:List (Str×Value)} {m:Str->Option Value},(∀v,(x,v)∉binds)->bindC kindOf binds m x=m x
 |[],_,_=>rfl
 |(n,v)::r,m,h=>by
  unfold bindC;rw[a8h λw hw=>h w (aQ _ hw)]
  split
  .rfl
  .have:x≠n:=by rintro rfl;exact h v aY
   simp[this]
theorem a8i{kindOf:Str->Option NameKind}{x:Str}{v:Value}:∀{P:List Str} {vs:List Value} {i:Nat} {m:Str->Option Value},P.Nodup->P[i]? = some x->vs[i]? = some v->kindOf x=some .local->
  bindL kindOf (P.zip vs) m x=some v
 |[],_,_,_,_,h,_,_=>by simp at h
 |_::_,[],_,_,_,_,h,_=>by simp at h
 |p::P,w::vs,0,m,nd,h1,h2,hk=>by
  simp at h1 h2;subst h1;subst h2
  show bindL kindOf ((p,w)::P.zip vs) m p=_;unfold bindL;rw[a8g λv hv=>(cT.mp nd).1 (fW hv).1,av hk];simp
 |p::P,w::vs,i+1,m,nd,h1,h2,hk=>by
  show bindL kindOf ((p,w)::P.zip vs) m x=_;unfold bindL;exact a8i (i:=i) (cT.mp nd).2 (by simpa using h1) (by simpa using h2) hk
theorem a8j{kindOf:Str->Option NameKind}{x:Str}{v:Value}:∀{P:List Str} {vs:List Value} {i:Nat} {m:Str->Option Value},P.Nodup->P[i]? = some x->vs[i]? = some v->kindOf x≠some .local->
  bindC kindOf (P.zip vs) m x=some v
 |[],_,_,_,_,h,_,_=>by simp at h
 |_::_,[],_,_,_,_,h,_=>by simp at h
 |p::P,w::vs,0,m,nd,h1,h2,hk=>by
  simp at h1 h2;subst h1;subst h2
  show bindC kindOf ((p,w)::P.zip vs) m p=_;unfold bindC;rw[a8h λv hv=>(cT.mp nd).1 (fW hv).1,aO hk];simp
 |p::P,w::vs,i+1,m,nd,h1,h2,hk=>by
  show bindC kindOf ((p,w)::P.zip vs) m x=_;unfold bindC;exact a8j (i:=i) (cT.mp nd).2 (by simpa using h1) (by simpa using h2) hk
noncomputable def start(N:List Str)(vs:List V):St:=vs.map some++List.replicate (N.length-vs.length) none
noncomputable def aex(CX:CXT)(P:Program)(w:World)(K:Fg)(mg:Str->Option Value)(base:Heap)(N:List Str)(qual:Str)(aB:Scope)(f:Addr)(cd:Value)(A:Around)(outer:List Env)(s:Shared)(H:Hp)(E:XK):Cx where
 prog:=P
 w:=w
 K:=K
 mg:=mg
 base:=base
 A:=A.deeper (envOfC qual aB s.heap.objs.size f cd)
 N:=N
 s₀:=s
 H₀:=H
 env:=envOfC qual aB s.heap.objs.size f cd
 outer:=outer
 stack:=envOfC qual aB s.heap.objs.size f cd::outer
 ex:=[]
 calm:=true
 fn:=λ_=>true
 pn:=[]
 xe:=λe s'=>wpAny (model P w) (A.deeper (envOfC qual aB s.heap.objs.size f cd)) (leaving (envOfC qual aB s.heap.objs.size f cd) e) (λ_ s''=>CX outer H s E e s'') (λe' s''=>CX outer H s E e' s'') s'
theorem abo{sc:Scope}(h:sc.names.lookup x=some .cell):∃c,(cellsFrom n sc.names []).lookup x=some c:=by
 have q:=PySem.W.cellsFrom_some sc.names n [] (.inl h);exact fK.mp q
theorem aey{CX:CXT}{P:Program}{w:World}{K:Fg}{mg:Str->Option Value}{base:Heap}{N ps:List Str}{qual:Str}{aB:Scope}{f:Addr}{cd:Value}{A:Around}{outer:List Env}{s s1:Shared}{H:Hp}{E:XK}{us:List Value}{vs:List V}
  (S:FnScope N ps aB) (hd:A.handled=none) (e0:Env0 P w K mg base A outer s H) (hl:vs.length=ps.length) (r:Vals vs us)
  (x:InCallC s s.heap.objs.size (bindL (envOfC qual aB s.heap.objs.size f cd).kindOf (ps.zip us) λ_=>none) (cellsFrom (s.heap.objs.size+1) aB.names []) (bindC (envOfC qual aB s.heap.objs.size f cd).kindOf (ps.zip us) λ_=>none) s1) :
  Inv (aex CX P w K mg base N qual aB f cd A outer s H E) [] (start N vs) H s1:=by
 have hpl:ps.length<=N.length:=by have:=ah List.length S.pre;rw[aR]at this;omega
 obtain⟨h1,tk,rfl,hk⟩:=x.done;have noA:∀b:Addr,b∉(aex CX P w K mg base N qual aB f cd A outer s H E).ex:=λb z=>absurd (show b∈([]:List Addr) from z) (by simp)
 refine⟨⟨e0.mod,S.kind,rfl,rfl,a9 _,λy z c h1 h2=>?_,λy hy=>?_,λy c _ h=>?_,λ_=>hd,Around.frames_deeper e0.frames,.inr ⟨rfl,rfl⟩,λb z=>absurd z (noA b),e0.bs,e0.bsz,λb _ _=>noA b,λb z=>absurd z (noA b),e0.funs,e0.frf⟩,
  rfl,e0.bare,Un.kept hk,⟨_,x.toInCall.ns,λi y v h1 h2 h3=>?_⟩,λy c h=>⟨_,x.cell y c h⟩,e0.hok.fresh (a9 _),λy c h=>?_,λp hp=>absurd (show p∈([]:List (Addr×Obj)) from hp) (by simp),e0.hok.kept hk,?_⟩
 .exact name_of_addr x.apart (bY h1) (bY h2)
 .have hy:aB.names.lookup y=some .cell\/aB.names.lookup y=some .free:=hy
  rcases hy with hy|hy
  .exact abo hy
  .exact absurd rfl (S.nofree _ (bY hy))
 .exact Nat.le_of_lt (x.above y c (bY h))
 .have hi:i<vs.length:=by
   unfold start at h2
   by_cases hi:i<vs.length
   .exact hi
   .rw[aN (by simpa using hi)]at h2
    rw[dF]at h2
    split at h2<;>cases h2
  have ha:vs[i]? = some v:=by
   unfold start at h2;rw[aV (by simpa using hi),bT]at h2
   cases e:vs[i]? with
   |none=>rw[e]at h2;cases h2
   |some a=>rw[e]at h2;cases h2;rfl
  obtain⟨u,hu,rv⟩:=r.get ha;have hp:ps[i]? = some y:=by
   rw[<-S.pre,List.getElem?_take_of_lt (by omega)];exact h1
  have ndP:ps.Nodup:=by rw[<-S.pre];exact S.nd.sublist (List.take_sublist _ _)
  refine⟨u,rv,?_⟩
  rcases S.par y (bB hp) with k|k
  .exact .inl ⟨k,a8i ndP hp hu k⟩
  .obtain⟨c,e⟩:=abo (n:=s.heap.objs.size+1) k;refine .inr ⟨.inl k,c,e,?_⟩;have q:=x.cell y c e;rw[a8j ndP hp hu (by show aB.names.lookup y≠_;rw[k];decide)]at q
   exact q
 .exact e0.hok.fresh (Nat.le_of_lt (x.above y c (bY h)))
 .unfold start;show _=N.length;rw[ae,aJ,dQ];omega
theorem asa{CX:CXT}{P:Program}{w:World}{K:Fg}{mg:Str->Option Value}{base:Heap}{k:Nat}{f:Addr}{name qual:Str}{params:Arguments}{body:List Stmt}{aB:Scope}{dV kV doc pm cdv ct oc:Value}{an od:Option Addr}
  {osl:Array (Option Value)} {N ps:List Str} {sp:Sp} (lk:K.lookup f=some ⟨oc,od,.func (PySem.W.fnOf name qual params body aB dV kV doc pm an cdv ct),osl⟩) (hcd:PySem.W.codeIn K cdv qual=true) (S:FnScope N ps aB)
  (len:∀vs H Q E,sp vs H Q E->vs.length=ps.length)
  (hbody:∀(A:Around) (outer:List Env) (s:Shared) (H:Hp) (vs:List V) (Q:VK) (E:XK),Room k (A.deeper (envOfC qual aB s.heap.objs.size f cdv))->sp vs H Q E->
   ∃t,PSs (aex CX P w K mg base N qual aB f cdv A outer s H E) body t/\t {nx:=λ_ H'=>Q .non H',rt:=Q} (start N vs) H) :
  FnOk P w K mg base CX (k+1) f (PySem.W.fnOf name qual params body aB dV kV doc pm an cdv ct) ps sp:=by
 refine⟨len,λA outer s H args us vs Q E hr e0 hb r hsp=>?_⟩;have hl:=len _ _ _ _ hsp;have KX:K.In s.heap:=e0.mod.kin.keeps λb o e=>(e0.bs b o e).1;have lim:s.heap.NoLimit:=e0.mod.nolimit.keeps λb o e=>(e0.bs b o e).1;have hkind:∀y∈ps.zip us,aB.names.lookup y.1=some .local\/(aB.names.lookup y.1=some .cell/\((cellsFrom (s.heap.objs.size+1) aB.names []).lookup y.1).isSome=true):=λ⟨n,v⟩ hy=>by
  rcases S.par n (fW hy).1 with q|q
  .exact .inl q
  .exact .inr ⟨q,PySem.W.cellsFrom_some _ _ _ (.inl q)⟩
 refine codeAny_call_function hr.depth (KX _ _ lk) rfl S.co S.gen rfl (PySem.W.codeRec_of KX hcd) (hb _ _ _ _ ?_);refine wpAny_newFunctionEnv_cells S.kind hkind λenv he s1 x=>?_;subst he;refine⟨lim.keeps x.toInCall.keep,codeAny_func ?_⟩;obtain⟨t,ht,hq⟩:=hbody A outer s H vs Q E (hr.deeper _) hsp;have I:Inv (aex CX P w K mg base N qual aB f cdv A outer s H E) [] (start N vs) H s1:=aey S hr.hd e0 hl r x;refine bP (ht [] s1 (start N vs) H _ I hq) (λfl s' hs=>?_) λe s' hs=>hs;have fin:∀{σ':St} {H':Hp} {v:V} {u:Value},Inv (aex CX P w K mg base N qual aB f cdv A outer s H E) [] σ' H' s'->RelV v u->Q v H'->CE outer P w H s Q u s' :=
  λ{σ' H' v u} J rv q=>⟨v,H',J.os,J.bare,J.base,J.hok,rv,q⟩
 cases fl with
 |ret u =>
  obtain⟨v,σ',H',J,rv,q⟩:=hs;exact fin J rv q
 |next =>
  obtain⟨σ',H',J,q⟩:=hs;exact fin (v:=V.non) (u:=Value.none) J rfl q
 |brk =>
  obtain⟨_,_,_,q⟩:=hs;exact False.elim q
 |cont =>
  obtain⟨_,_,_,q⟩:=hs;exact False.elim q
section
variable{X:Cx}{x:Str}{p pos:Pos}{e:Expr}{es:List Expr}{t:TA}{id T:String}{r:List V->Hp->VK->Prop}
def tCB(r:List V->Hp->VK->Prop)(t:TA):TE:=λσ H Q=>t σ H λvs H1=>r vs H1 Q
theorem a3i(hc:CallR X (.builtin id) r)(hg:Gl X x)(hm:X.mg x=none)(hv:bootBuiltins x=some (.builtin id))(ha:PA X (e::es) t)(hn:x ≠ "__name__":=by decide)(hdb:(x == ("__debug__" : Str))=false:=by decide)
  (he:starEach (e::es) X.env=(false,eval e X.env)::starEach es X.env:=by rfl) (hpl:(backTo pos (starEach es X.env)).any (·.1)=false:=by rfl):PE X (.Call (.Name x p) (e::es) [] pos) (tCB r t):=by
 intro aA s σ H Q I h
 refine dO (abm I hg hm hv ?_ hn hdb);exact PyProof.Rows.callWith_builtin1 (thn (ha pos aA s σ H _ I h) λus s1 ⟨vs,H1,I1,r1,q1⟩=>hc aA s1 σ H1 vs us Q I1 r1 q1) he hpl
theorem a8k(hc:CallR X (.type T) r)(hg:Gl X x)(hm:X.mg x=none)(hv:bootBuiltins x=some (.type T))(ha:PA X (e::es) t)(hn:x ≠ "__name__":=by decide)(hdb:(x == ("__debug__" : Str))=false:=by decide)
  (he:starEach (e::es) X.env=(false,eval e X.env)::starEach es X.env:=by rfl) (hpl:(backTo pos (starEach es X.env)).any (·.1)=false:=by rfl):PE X (.Call (.Name x p) (e::es) [] pos) (tCB r t):=by
 intro aA s σ H Q I h
 refine dO (abm I hg hm hv ?_ hn hdb);exact fk (thn (ha pos aA s σ H _ I h) λus s1 ⟨vs,H1,I1,r1,q1⟩=>hc aA s1 σ H1 vs us Q I1 r1 q1) he hpl
end
end L2
namespace HT
open PyProof.Rows
section
variable{prog:Program}{w:World}{A:Around}{E:Value->Shared->Prop}{s:Shared}
theorem ao0{vs ws:List Value}(ht:IsTup s.heap t vs.toArray)(hb:IsTup s.heap b ws.toArray)(hv:vs≠[])
  (h1:ws=[]->Q (.ref t) s) (h2:ws≠[]->Q (.ref s.heap.objs.size) {s with heap:=s.heap.push {cls:=.type "tuple",data:=.seq (vs++ws).toArray} })
  (hsz:vs.length+ws.length<=sizeLine):wpAny (model prog w) A (binaryOp .Add (.ref t) (.ref b)) Q E s:=by
 obtain⟨⟨cls,dd,data,sl⟩,ho,hc,n,hd⟩:=id ht;obtain⟨⟨cls2,dd2,data2,sl2⟩,ho2,hc2,n2,hd2⟩:=id hb;simp only at hc hd hc2 hd2;subst hc hd hc2 hd2;have e:vs.toArray++ws.toArray=(vs++ws).toArray:=by simp
 by_cases hw:ws=[]
 .exact concat_meets ⟨_,ho,rfl⟩ ⟨_,ho2,rfl⟩ fU seq_tuple_add PySem.F.slot_tuple_add fP (fL _ _)
   (tuple_addW1 t b vs.toArray ws.toArray n n2 dd dd2 sl sl2 (by simpa using hv) (by simp[hw])) ⟨ho,ho2,h1 hw⟩
 .refine concat_meets ⟨_,ho,rfl⟩ ⟨_,ho2,rfl⟩ fU seq_tuple_add PySem.F.slot_tuple_add fP (fL _ _)
   (tuple_addW2 t b vs.toArray ws.toArray n n2 dd dd2 sl sl2 (by simpa using hv) (by simpa using hw) (by rw[aw,aw];exact hsz)) ⟨ho,ho2,?_⟩
  rw[e];exact h2 hw
noncomputable def sIx(n d:Nat):Option Int->Nat
 |none=>d
 |some v=>if v<0 then (v+(n:Int)).toNat else min v.toNat n
theorem abp(n d:Nat):sIx n d none=d:=rfl
theorem aez(n d k:Nat):sIx n d (some (k:Int))=min k n:=by
 show(if (k:Int)<0 then ((k:Int)+(n:Int)).toNat else min (k:Int).toNat n)=min k n
 rw[aO (by omega),eN]
theorem af0(n d:Nat)(hd:d<=n)(o:Option Int):sIx n d o<=n:=by
 cases o with
 |none=>exact hd
 |some v =>
  show(if v<0 then (v+(n:Int)).toNat else min v.toNat n)<=n
  by_cases hv:v<0
  .rw[av hv];omega
  .rw[aO hv];exact Nat.min_le_right _ _
theorem af1(v:Int)(n d:Nat):(if v<0 then max (v+(n:Int)) 0 else min v (n:Int))=((sIx n d (some v):Nat):Int):=by
 show(if v<0 then max (v+(n:Int)) 0 else min v (n:Int))=(((if v<0 then (v+(n:Int)).toNat else min v.toNat n):Nat):Int)
 by_cases hv:v<0
 .simp only[av hv];omega
 .simp only[aO hv];omega
theorem ade(lo hi:Option Int)(n:Nat):Builtin.Slice.sliceAdjust lo hi 1 (n:Int)=(((sIx n 0 lo:Nat):Int),((sIx n n hi:Nat):Int)):=by
 have h1:¬ ((1:Int)<0):=by omega
 unfold Builtin.Slice.sliceAdjust;simp only[h1,eP];refine Prod.ext ?_ ?_
 .cases lo with
  |none=>rfl
  |some v=>exact af1 v n 0
 .cases hi with
  |none=>rfl
  |some v=>exact af1 v n n
theorem adf(i j:Nat):Builtin.Slice.slicePlaces (i:Int) (j:Int) 1=j-i:=by
 unfold Builtin.Slice.slicePlaces;have h1:(1:Int) > 0:=by omega
 simp only[h1,ef,Int.ediv_one]
 split<;>omega
theorem a6t(p:IsPart v o)(h:Q o s):wpAny (model prog w) A (Builtin.Slice.slicePartIndex v) Q E s:=by
 cases p with
 |none=>exact slicePart_none h
 |int i t=>exact slicePart_int h
theorem a0w{sl:Addr}{vl vu:Value}{lo hi:Option Int}{n:Nat}{Q:Int×Int×Nat->Shared->Prop}(hs:s.heap.IsSliceOf sl vl vu .none)(pl:IsPart vl lo)(pu:IsPart vu hi)
  (h:Q (((sIx n 0 lo:Nat):Int),1,sIx n n hi-sIx n 0 lo) s):wpAny (model prog w) A (Builtin.Slice.sliceApplied (.ref sl) (pure (n:Int))) Q E s:=by
 obtain⟨os,hos,hcs,hds⟩:=id hs;unfold Builtin.Slice.sliceApplied Builtin.Slice.sliceFields;refine ax (ax (wpAny_field hos hds (x:=vl) rfl (ax (wpAny_field hos hds (x:=vu) rfl (ax (wpAny_field hos hds (x:=.none) rfl (aS ?_)))))));refine ax (slicePart_none ?_);show wpAny _ _ (if ((1:Int) == 0)=true then _ else _) _ _ s
 rw[aO (by decide)]
 refine ax (a6t pl (ax (a6t pu (ax (aS ?_)))));show wpAny _ _ (match Builtin.Slice.sliceAdjust lo hi 1 (n:Int) with|(lo,hi)=>pure (lo,(1:Int),Builtin.Slice.slicePlaces lo hi 1)) _ _ s
 rw[ade lo hi n];show wpAny _ _ (pure (((sIx n 0 lo:Nat):Int),(1:Int),Builtin.Slice.slicePlaces ((sIx n 0 lo:Nat):Int) ((sIx n n hi:Nat):Int) 1)) _ _ s;rw[adf];exact aS h
theorem aiw(xs:Array Value)(i k:Nat):((List.range k).filterMap λ(m:Nat)=>xs[((i:Int)+(m:Int)*1).toNat]?).toArray=((xs.toList.drop i).take k).toArray:=by
 have e:(λ(m:Nat)=>xs[((i:Int)+(m:Int)*1).toNat]?)=λm=>xs[i+m]?:=by
  funext m
  have:((i:Int)+(m:Int)*1).toNat=i+m:=by omega
  rw[this]
 rw[e];have:=pick_run xs i k;rw[List.filterMap_map]at this;have e2:((λx=>xs[x]?) ∘ λx=>i+x)=λm=>xs[i+m]?:=rfl;rw[e2]at this;rw[this]
theorem a4d{t sl:Addr}{aC:Array Value}{vl vu:Value}{lo hi:Option Int}{Q:Value->Shared->Prop}(ht:IsTup s.heap t aC)(hs:s.heap.IsSliceOf sl vl vu .none)(pl:IsPart vl lo)(pu:IsPart vu hi)
  (hw:¬ (sIx aC.size 0 lo=0/\sIx aC.size aC.size hi=aC.size))
  (h:Q (.ref s.heap.objs.size) {s with heap:=s.heap.push {cls:=.type "tuple",data:=.seq ((aC.toList.drop (sIx aC.size 0 lo)).take (sIx aC.size aC.size hi-sIx aC.size 0 lo)).toArray} })
  (hsz:aC.size<=sizeLine):wpAny (model prog w) A (getItem (.ref t) (.ref sl)) Q E s:=by
 have htake:sizeOk (.seq ((aC.toList.drop (sIx aC.size 0 lo)).take (sIx aC.size aC.size hi-sIx aC.size 0 lo)).toArray):=by
  show((aC.toList.drop (sIx aC.size 0 lo)).take (sIx aC.size aC.size hi-sIx aC.size 0 lo)).toArray.size<=sizeLine;rw[aw,aR,b6,cR];omega
 have hj:sIx aC.size aC.size hi<=aC.size:=af0 _ _ (a9 _) hi;obtain⟨os,hos,hcs,hds⟩:=id hs;have hTs:s.TypeIs (.ref sl) "slice":=⟨os,hos,hcs⟩;unfold getItem
 try with_reducible refine cW ?_
 first|refine ax (aS ?_)|skip
 refine ax (wpAny_sequenceKey ht.typeIs (by decide) ?_)
 refine ax (wpAny_callSpecial?_slot (name:=Str.ofString "__getitem__") ht.typeIs bO
  (wpAny_call_entry bO ht.typeIs entry_tuple_getitem ?_ (args_tuple_getitem _ _)))
 show wpAny _ _ (Builtin.Tuple.tupleItemsOf (.ref t)>>=_) _ _ s;refine ax (tupleItemsOf_ ht ?_);refine ax (wpAny_typeOf hTs ?_);rw[av (by decide)]
 refine ax (a0w hs pl pu ?_);have hno:¬ ((((sIx aC.size 0 lo:Nat):Int) == 0 && (1:Int) == 1 && (sIx aC.size aC.size hi-sIx aC.size 0 lo) == aC.size)=true):=by
  intro q
  rw[af,af]at q;have q1:((sIx aC.size 0 lo:Nat):Int)=0:=eq_of_beq q.1.1;have q2:sIx aC.size aC.size hi-sIx aC.size 0 lo=aC.size:=eq_of_beq q.2;exact hw ⟨by omega,by omega⟩
 show wpAny _ _ (if (((sIx aC.size 0 lo:Nat):Int) == 0 && (1:Int) == 1 && (sIx aC.size aC.size hi-sIx aC.size 0 lo) == aC.size)=true then _ else _) _ _ s
 rw[aO hno,aiw]
 first
  |exact ax (m:=Builtin.Tuple.tupleExact _) (dB (aS ⟨_,rfl,aS h⟩) htake)
  |exact ax (m:=Builtin.Tuple.tupleExact _) (dB (ax (aS (aS ⟨_,rfl,aS h⟩))) htake)
  |exact ax (ax (m:=Builtin.Tuple.tupleExact _) (dB (aS (aS ⟨_,rfl,aS h⟩)) htake))
  |exact ax (ax (m:=Builtin.Tuple.tupleExact _) (dB (aS ⟨_,rfl,aS h⟩) htake))
end
end HT
namespace L2
open PyProof.Rows
abbrev TO:=St->Hp->(Option Int->Hp->Prop)->Prop
def PO(X:Cx)(e:Option Expr)(t:TO):Prop :=
 ∀(aA:List (Addr×Obj)) (s:Shared) (σ:St) (H:Hp) (Q:Option Int->Hp->Prop),Inv X aA σ H s->t σ H Q->
  wpAny (model X.prog X.w) X.A (evalPart e X.env) (λu s'=>∃o H',Inv X aA σ H' s'/\IsPart u o/\Q o H') X.xe s
def ao1:TO:=λ_ H Q=>Q none H
noncomputable def axr(t:TE):TO:=λσ H Q=>t σ H λx H1=>∃i,x=.int i/\Q (some i) H1
theorem intsAre_of{ns:List Int}:∀{us:List Value},Vals (ns.map V.int) us->IntsAre us ns:=by
 induction ns with
 |nil=>intro us r;rw[cY]at r;cases r;exact .nil
 |cons n ns ih =>
  intro us r
  rw[bg]at r
  cases r with
  |cons r1 r2 =>
   obtain⟨t,e⟩:=r1;subst e;exact .cons n t (ih r2)
section
variable{X:Cx}{e:Expr}{te:TE}{lo hi:Option Expr}{tl th:TO}{pos p2:Pos}
theorem ao2:PO X none ao1:=by
 intro aA s σ H Q I h
 rw[evalPart_none];exact aS ⟨none,H,I,.none,h⟩
theorem ao3(h:PE X e te):PO X (some e) (axr te):=by
 intro aA s σ H Q I hw
 rw[evalPart_some];refine thn (h aA s σ H _ I hw) ?_
 rintro u s1 ⟨x,H1,I1,r1,q1⟩
 obtain⟨i,rfl,q⟩:=q1;obtain⟨t,rfl⟩:=r1;exact⟨some i,H1,I1,.int i t,q⟩
def SlR(X:Cx)(r:V->Option Int->Option Int->Hp->VK->Prop):Prop :=
 ∀(aA:List (Addr×Obj)) (s:Shared) (σ:St) (H:Hp) (x:V) (v vl vu:Value) (lo hi:Option Int) (sl:Addr) (Q:VK),Inv X aA σ H s->RelV x v->s.heap.IsSliceOf sl vl vu .none->IsPart vl lo->IsPart vu hi->r x lo hi H Q->
  ∃T id,typeLookup (.type T) "__getitem__" = pure (some (.builtin id))/\s.TypeIs v T/\wpAny (model X.prog X.w) X.A (getItem v (.ref sl)) (EP X aA σ Q) X.xe s
theorem SlR.or(h:SlR X r)(h':SlR X r'):SlR X (λx lo hi H Q=>r x lo hi H Q\/r' x lo hi H Q):=by
 intro aA s σ H x v vl vu lo hi sl Q I rx hs pl pu q
 rcases q with q|q
 .exact h aA s σ H x v vl vu lo hi sl Q I rx hs pl pu q
 .exact h' aA s σ H x v vl vu lo hi sl Q I rx hs pl pu q
def tSl(r:V->Option Int->Option Int->Hp->VK->Prop)(te:TE)(tl th:TO):TE:=λσ H Q=>te σ H λx H1=>tl σ H1 λl H2=>th σ H2 λu H3=>r x l u H3 Q
theorem aix(hr:SlR X r)(he:PE X e te)(hl:PO X lo tl)(hu:PO X hi th):PE X (.Subscript e (.Slice lo hi none p2) pos) (tSl r te tl th):=by
 intro aA s σ H Q I h
 refine Subscript_ (thn (he aA s σ H _ I h) λv s1 ⟨x,H1,I1,r1,q1⟩=>?_);refine wpAny_Slice (thn (hl aA s1 σ H1 _ I1 q1) λvl s2 ⟨l,H2,I2,pl,q2⟩=>thn (hu aA s2 σ H2 _ I2 q2) λvu s3 ⟨u,H3,I3,pu,q3⟩=>?_);rw[evalPart_none];refine aS ?_;have I4:Inv X aA σ H3 {s3 with heap:=s3.heap.push {cls:=.type "slice",data:=.fields #[vl,vu,.none]} }:=I3.kept (t':=s3.toks) λb ob q=>aI _ q
 obtain⟨T,id,hT,ht,hg⟩:=hr aA {s3 with heap:=s3.heap.push {cls:=.type "slice",data:=.fields #[vl,vu,.none]} } σ H3 x v vl vu l u s3.heap.objs.size Q I4 r1 (Heap.IsSliceOf.new ..) pl pu q3
 show wpAny (model X.prog X.w) X.A (subscriptTail e (.Slice lo hi none p2) v (.ref s3.heap.objs.size)) (EP X aA σ Q) X.xe {s3 with heap:=s3.heap.push {cls:=.type "slice",data:=.fields #[vl,vu,.none]} }
 exact tail_any (ops:=[.ref s3.heap.objs.size,v]) ht hT hg (by with_unfolding_all rfl)
noncomputable def alz(xs:List V)(lo hi:Option Int):List V:=(xs.drop (HT.sIx xs.length 0 lo)).take (HT.sIx xs.length xs.length hi-HT.sIx xs.length 0 lo)
theorem a5j(xs:List V)(lo hi:Option Int):(alz xs lo hi).length<=xs.length:=by
 unfold alz;rw[aR,b6];omega
def axs(K:Fg):V->Option Int->Option Int->Hp->VK->Prop:=λx lo hi H Q=>∃a xs,x=.ref a/\SqT K H a xs /\
 ¬ (HT.sIx xs.length 0 lo=0/\HT.sIx xs.length xs.length hi=xs.length)/\∀p,H p=none->Q (.ref p) (upd H p (.tup (alz xs lo hi)))
theorem asb:SlR X (axs X.K):=by
 intro aA s σ H x v vl vu lo hi sl Q I rx hs pl pu h
 obtain⟨a,xs,rfl,hx,hw,q⟩:=h;cases rx
 obtain⟨its,r,ht,hz⟩:=I.tuple hx;have aH:its.toArray.size=xs.length:=by rw[aw];exact r.length.symm
 refine⟨"tuple",_,bO.lookup,ht.typeIs,?_⟩;refine HT.a4d ht hs pl pu (by rw[aH];exact hw) ?_ (by rw[aH];exact hz)
 rw[aH];refine⟨.ref s.heap.objs.size,_,I.laid (t':=s.toks) (o:=.tup (alz xs lo hi)) (λb ob q=>aI _ q) (a9 _) ?_,rfl,q _ (I.hok.fresh (a9 _))⟩;exact⟨bE (a5j xs lo hi) hz,_,(r.drop (HT.sIx xs.length 0 lo)).take (HT.sIx xs.length xs.length hi-HT.sIx xs.length 0 lo),TupD.new _ _⟩
noncomputable def asd(K:Fg):R2:=λx y H Q=>∃a b xs ys,x=.ref a/\y=.ref b/\SqT K H a xs/\SqT K H b ys/\xs≠[]/\xs.length+ys.length<=sizeLine /\
 (ys=[]->Q (.ref a) H)/\(ys≠[]->∀p,H p=none->Q (.ref p) (upd H p (.tup (xs++ys))))
theorem Vals.nil_iff(r:Vals xs us):us=[]↔xs=[]:=by
 cases r with
 |nil=>simp
 |cons _ _=>simp
theorem ao4:OpR X (binaryOp .Add) (asd X.K):=by
 intro aA s σ H x y v u Q I rx ry h
 obtain⟨a,b,xs,ys,rfl,rfl,ha,hb,hx,hz,q1,q2⟩:=h;cases rx
 cases ry
 obtain⟨its,r1,p1,_⟩:=I.tuple ha;obtain⟨its2,r2,p2,_⟩:=I.tuple hb;refine HT.ao0 p1 p2 (λz=>hx (r1.nil_iff.mp z)) (λz=>⟨.ref a,H,I,rfl,q1 (r2.nil_iff.mp z)⟩) (λz=>?_) (by rw[<-r1.length,<-r2.length];exact hz)
 refine⟨.ref s.heap.objs.size,_,I.laid (t':=s.toks) (o:=.tup (xs++ys)) (λb ob q=>aI _ q) (a9 _) ?_,rfl,q2 (λw=>z (r2.nil_iff.mpr w)) _ (I.hok.fresh (a9 _))⟩;exact⟨by rw[ae];exact hz,_,r1.append r2,TupD.new _ _⟩
end
noncomputable def ixN(n:Nat)(i:Int):Option Nat:=if 0<=i then (if i<n then some i.toNat else none) else if -(n:Int)<=i then some (i+n).toNat else none
noncomputable def atI{α:Type}(xs:List α)(i:Int):Option α:=(ixN xs.length i).bind λj=>xs[j]?
theorem af2(h:ixN n i=some j):seqIndex? i n=some j/\j<n /\ -(n:Int)<=i/\i<n:=by
 unfold ixN at h
 by_cases h0:0<=i
 .rw[av h0]at h
  by_cases h1:i<n
  .rw[av h1]at h;have e:i.toNat=j:=bJ h;exact⟨by rw[gu h0 h1,e],by omega,by omega,h1⟩
  .rw[aO h1]at h;cases h
 .rw[aO h0]at h
  by_cases h1 : -(n:Int)<=i
  .rw[av h1]at h;have e:(i+n).toNat=j:=bJ h;exact⟨by rw[fX (by omega) h1,e],by omega,h1,by omega⟩
  .rw[aO h1]at h;cases h
theorem a7f{α:Type}{xs:List α}{i:Int}{v:α}(h:atI xs i=some v):∃j,seqIndex? i xs.length=some j/\xs[j]? = some v/\j<xs.length /\ -(xs.length:Int)<=i/\i<xs.length:=by
 unfold atI at h
 cases e:ixN xs.length i with
 |none=>rw[e]at h;cases h
 |some j =>
  rw[e]at h;obtain⟨h1,h2,h3,h4⟩:=af2 e;exact⟨j,h1,h,h2,h3,h4⟩
theorem vp{α:Type}{xs:List α}{j:Nat}{v:α}(h:xs[j]? = some v):atI xs (j:Int)=some v:=by
 have hj:j<xs.length:=(ag.mp h).1;have e:ixN xs.length (j:Int)=some j:=by
  unfold ixN;rw[av (by omega),av (by omega)];simp
 unfold atI;rw[e];exact h
def a7g(b:Expr):Prop:=∀o i,subscripted b false o i=operate [o,i] (getItem o i)
def IxR(X:Cx)(r:R2):Prop :=
 ∀(value slice:Expr) (aA:List (Addr×Obj)) (s:Shared) (σ:St) (H:Hp) (x y:V) (v u:Value) (Q:VK),Inv X aA σ H s->RelV x v->RelV y u->r x y H Q->
  subscripted slice false v u=operate [v,u] (getItem v u)->wpAny (model X.prog X.w) X.A (subscriptTail value slice v u) (EP X aA σ Q) X.xe s
def MtR(X:Cx)(id:String)(r:V->List V->Hp->VK->Prop):Prop :=
 ∀(aA:List (Addr×Obj)) (s:Shared) (σ:St) (H:Hp) (x:V) (xs:List V) (v:Value) (us:List Value) (Q:VK),Inv X aA σ H s->RelV x v->Vals xs us->r x xs H Q->
  wpAny (model X.prog X.w) X.A (call (.builtin id) (v::us)) (EP X aA σ Q) X.xe s
section
variable{X:Cx}{a b:Expr}{ta tb:TE}{pos:Pos}
theorem IxR.or(h:IxR X r)(h':IxR X r'):IxR X (λx y H Q=>r x y H Q\/r' x y H Q):=by
 intro value slice aA s σ H x y v u Q I rx ry q hs
 rcases q with q|q
 .exact h value slice aA s σ H x y v u Q I rx ry q hs
 .exact h' value slice aA s σ H x y v u Q I rx ry q hs
theorem MtR.or{id:String}{r r':V->List V->Hp->VK->Prop}(h:MtR X id r)(h':MtR X id r'):MtR X id (λx xs H Q=>r x xs H Q\/r' x xs H Q):=by
 intro aA s σ H x xs v us Q I rx rs q
 rcases q with q|q
 .exact h aA s σ H x xs v us Q I rx rs q
 .exact h' aA s σ H x xs v us Q I rx rs q
theorem axt(hr:IxR X r)(ha:PE X a ta)(hb:PE X b tb)(hs:a7g b):PE X (.Subscript a b pos) (tOp r ta tb):=by
 intro aA s σ H Q I h
 exact Subscript_ (axk ha hb I h λv u s2 x y H2 I2 rx ry q=>hr a b aA s2 σ H2 x y v u Q I2 rx ry q (hs _ _))
noncomputable def aws(K:Fg):R2:=λx y H Q=>∃p xs i v,x=.ref p/\y=.int i/\SqL K H p xs/\atI xs i=some v/\Q v H
noncomputable def azi(K:Fg):R2:=λx y H Q=>∃p xs i v,x=.ref p/\y=.int i/\SqT K H p xs/\atI xs i=some v/\Q v H
noncomputable def azj:R2:=λx y H Q=>∃z i c,x=.str z/\y=.int i/\z.length<=sizeLine/\atI z.cps.toList i=some c/\Q (.str ⟨#[c]⟩) H
theorem ao5:IxR X (aws X.K):=by
 intro value slice aA s σ H x y v u Q I rx ry h hs
 obtain⟨p,xs,i,z,rfl,rfl,hq,he,q⟩:=h;cases rx
 obtain⟨t,rfl⟩:=ry;obtain⟨its,r,pl,hz⟩:=I.list hq;obtain⟨j,h1,h2,h3,h4,h5⟩:=a7f he;obtain⟨w,ew,rw'⟩:=r.get h2;have hl:=r.length;have hn:=a4r;have fin:EP X aA σ Q w s:=⟨z,H,I,rw',q⟩
 by_cases h0:0<=i
 .have hj:i.toNat=j:=by
   rw[gu h0 h5]at h1;exact bJ h1
  exact item_listR pl.isList h0 (by omega) (by rw[hj];simpa using ew) fin hs
 .have hj:(i+(its.toArray.size:Int)).toNat=j:=by
   rw[fX (by omega) h4]at h1
   rw[aw,<-hl];exact bJ h1
  exact subscriptTail_builtinR (x:=w) pl.isList.typeIs slot_list_getitem.lookup
   (wpAny_getItem_list_neg (Q:=λr s'=>r=w/\EP X aA σ Q r s') pl.isList (by omega) (by rw[aw]<;>omega) (by omega) (by rw[hj];simpa using ew) ⟨rfl,fin⟩) hs
theorem a5k:IxR X (azi X.K):=by
 intro value slice aA s σ H x y v u Q I rx ry h hs
 obtain⟨p,xs,i,z,rfl,rfl,hq,he,q⟩:=h;cases rx
 obtain⟨t,rfl⟩:=ry;obtain⟨its,r,pl,hz⟩:=I.tuple hq;obtain⟨j,h1,h2,h3,h4,h5⟩:=a7f he;obtain⟨w,ew,rw'⟩:=r.get h2;have hl:=r.length;have hn:=a4r;have fin:EP X aA σ Q w s:=⟨z,H,I,rw',q⟩;exact subscriptTail_builtinR (x:=w) pl.typeIs slot_tuple_getitem.lookup
  (getItem_tuple (j:=j) (Q:=λr s'=>r=w/\EP X aA σ Q r s') pl (by omega) (by omega) (by rw[aw,<-hl];exact h1) (by simpa using ew) ⟨rfl,fin⟩) hs
theorem ase:IxR X azj:=by
 intro value slice aA s σ H x y v u Q I rx ry h hs
 obtain⟨z,i,c,rfl,rfl,hz,he,q⟩:=h;obtain⟨t,rfl⟩:=rx;obtain⟨t',rfl⟩:=ry;obtain⟨j,h1,h2,h3,h4,h5⟩:=a7f he;have hl:z.cps.toList.length=z.length:=by simp[Str.length]
 rw[hl]at h1 h4 h5;have hn:=a4r;exact tail_any (typeIs_str s z t) slot_str_getitem.lookup (getItem_str (c:=c) (by
  have e1:decide (i < -(2^63:Int))=false:=ar (by omega)
  have e2:decide (i≥2^63)=false:=ar (by omega)
  rw[e1,e2,eE]) (by rw[h1];simpa using h2) ⟨.str ⟨#[c]⟩,H,I.tok _,⟨_,rfl⟩,q⟩) hs
noncomputable def rIx(K:Fg):R2:=λx y H Q=>aws K x y H Q\/azi K x y H Q\/azj x y H Q
theorem asf:IxR X (rIx X.K):=ao5.or (a5k.or ase)
theorem adg(its:List Value)(n j:Nat)(u:Value):Obj.mapSeq (·.setIfInBounds j u) {cls:=.type "list",data:=.seq its.toArray n}={cls:=.type "list",data:=.seq (its.set j u).toArray n}:=by
 simp[Obj.mapSeq]
theorem Inv.lst{aA:List (Addr×Obj)}{σ:St}{H:Hp}{s:Shared}{p:Addr}{xs:List V}(I:Inv X aA σ H s)(h:H p=some (.lst xs)) :
  ∃(its:List Value) (n:Nat),Vals xs its/\s.heap.get? p=some {cls:=.type "list",data:=.seq its.toArray n}/\xs.length<=sizeLine:=by
 obtain⟨z,its,n,r,e⟩:=I.hok p _ h;exact⟨its,n,r,e,z⟩
theorem Inv.lstUpd{its its':List Value}(I:Inv X aA σ H s)(h:H p=some (.lst xs))
  (ho:s.heap.get? p=some {cls:=.type "list",data:=.seq its.toArray n}) (hf:f {cls:=.type "list",data:=.seq its.toArray n}={cls:=.type "list",data:=.seq its'.toArray n' }) (r:Vals ys its') (hz:ys.length<=sizeLine) (t:Nat) :
  Inv X aA σ (upd H p (.lst ys)) {s with heap:=s.heap.update p f,toks:=t}:=by
 have e:(s.heap.update p f).get? p=some {cls:=.type "list",data:=.seq its'.toArray n' }:=by
  rw[Heap.get?_update_self f ho (by rw[hf]<;>rfl),hf]
 refine I.write (x:=p) (e:=p) (by rw[h];trivial) (.inl rfl) (λb u hb q=>(eM _ _ (eD hb)).trans q) ⟨_,e⟩ ?_
 exact⟨hz,its',n',r,e⟩
def ash:V->V->V->Hp->(Hp->Prop)->Prop:=λo i v H Q=>∃p xs k j,o=.ref p/\i=.int k/\H p=some (.lst xs)/\ixN xs.length k=some j/\Q (upd H p (.lst (xs.set j v)))
theorem set_list:axg X ash:=by
 intro aA s σ H o i v ov iv u Q I ro ri rv h
 obtain⟨p,xs,k,j,rfl,rfl,hp,hj,q⟩:=h;cases ro
 obtain⟨t,rfl⟩:=ri;obtain⟨its,n,r,ho,hz⟩:=I.lst hp;obtain⟨h1,h2,h3,h4⟩:=af2 hj;have hl:=r.length;have hn:=a4r;have I':Inv X aA σ (upd H p (.lst (xs.set j v))) {s with heap:=s.heap.update p (Obj.mapSeq (·.setIfInBounds j u))} :=
  I.lstUpd hp ho (adg its n j u) (r.set rv j) (by rw[dR];exact hz) s.toks
 by_cases h0:0<=k
 .have hk:k.toNat=j:=by
   rw[gu h0 h4]at h1;exact bJ h1
  exact PySem.W.ki_setAt ho h0 (by omega) (by rw[aw,<-hl];exact h4) (by rw[hk];exact⟨_,I',q⟩)
 .have hk:(k+(its.toArray.size:Int)).toNat=j:=by
   rw[fX (by omega) h3]at h1
   rw[aw,<-hl];exact bJ h1
  exact PySem.W.ki_setBack ho (by omega) (by rw[aw,<-hl];exact h3) (by omega) (by rw[hk];exact⟨_,I',q⟩)
theorem a8l(lo hi:Option Int)(n:Nat):(sliceBounds lo hi none n).1=((HT.sIx n 0 lo:Nat):Int)/\(sliceBounds lo hi none n).2.1=((HT.sIx n n hi:Nat):Int)/\(sliceBounds lo hi none n).2.2=1:=by
 refine⟨?_,?_,rfl⟩
 .cases lo with
  |none=>simp[sliceBounds,HT.sIx]
  |some i =>
   simp only[sliceBounds,HT.sIx,Option.getD_none,show(1:Int) > 0 by decide,ef]
   by_cases h:i<0
   .simp only[h,ef]<;>omega
   .simp only[h,eP]<;>omega
 .cases hi with
  |none=>simp[sliceBounds,HT.sIx]
  |some i =>
   simp only[sliceBounds,HT.sIx,Option.getD_none,show(1:Int) > 0 by decide,ef]
   by_cases h:i<0
   .simp only[h,ef]<;>omega
   .simp only[h,eP]<;>omega
theorem a7h(its:List Value)(lo hi:Option Int):slicePick its.toArray lo hi none=((its.drop (HT.sIx its.length 0 lo)).take (HT.sIx its.length its.length hi-HT.sIx its.length 0 lo)).toArray:=by
 obtain⟨h1,h2,h3⟩:=a8l lo hi its.toArray.size;unfold slicePick;rw[h1,h2,h3];simp only[sliceRange_one,pick_run,aw]<;>rfl
def axu(K:Fg):V->Option Int->Option Int->Hp->VK->Prop:=λx lo hi H Q=>∃a xs,x=.ref a/\SqL K H a xs/\∀p,H p=none->Q (.ref p) (upd H p (.lst (alz xs lo hi)))
theorem ao6:SlR X (axu X.K):=by
 intro aA s σ H x v vl vu lo hi sl Q I rx hs pl pu h
 obtain⟨a,xs,rfl,hx,q⟩:=h;cases rx
 obtain⟨its,r,ht,hz⟩:=I.list hx;have aH:=r.length;refine⟨"list",_,slot_list_getitem.lookup,ht.isList.typeIs,?_⟩;refine wpAny_getItem_list_slice ht.isList hs pl pu .none (by simp) ?_ (by rw[aw]<;>omega)
 rw[a7h,<-aH];refine⟨.ref s.heap.objs.size,_,I.laid (t':=s.toks) (o:=.lst (alz xs lo hi)) (λb ob q=>aI _ q) (a9 _) ?_,rfl,q _ (I.hok.fresh (a9 _))⟩;exact⟨bE (a5j xs lo hi) hz,_,0,(r.drop (HT.sIx xs.length 0 lo)).take (HT.sIx xs.length xs.length hi-HT.sIx xs.length 0 lo),bo _ rfl⟩
noncomputable def a2o:V->Bool
 |.non=>true
 |.bl _=>true
 |.int _=>true
 |.str _=>true
 |_=>false
noncomputable def eqV:V->V->Bool
 |.non,.non=>true
 |.bl a,.bl b=>a == b
 |.bl a,.int b=>(if a then 1 else 0) == b
 |.int a,.bl b=>a == (if b then 1 else 0)
 |.int a,.int b=>a == b
 |.str a,.str b=>a == b
 |_,_=>false
theorem af3(ry:RelV y u)(rx:RelV x v)(fy:a2o y=true)(fx:a2o x=true):SeqAt.EqAt A s u v (eqV y x):=by
 cases y with
 |non =>
  cases ry
  cases x with
  |non=>cases rx;exact SeqAt.EqAt.same _
  |bl b=>cases rx;exact SeqAt.EqAt.none_bool b
  |int b=>obtain⟨t,rfl⟩:=rx;exact SeqAt.EqAt.none_int b t
  |str b=>obtain⟨t,rfl⟩:=rx;exact SeqAt.EqAt.none_str b t
  |_=>exact absurd (show false=true from fx) aU
 |bl a =>
  cases ry
  cases x with
  |non=>cases rx;exact SeqAt.EqAt.bool_none a
  |bl b=>cases rx;exact SeqAt.EqAt.bool_bool a b
  |int b=>obtain⟨t,rfl⟩:=rx;exact SeqAt.EqAt.bool_int a b t
  |str b=>obtain⟨t,rfl⟩:=rx;exact SeqAt.EqAt.bool_str a b t
  |_=>exact absurd (show false=true from fx) aU
 |int a =>
  obtain⟨t',rfl⟩:=ry
  cases x with
  |non=>cases rx;exact SeqAt.EqAt.int_none a t'
  |bl b=>cases rx;exact SeqAt.EqAt.int_bool a t' b
  |int b=>obtain⟨t,rfl⟩:=rx;exact SeqAt.EqAt.int_int a t' b t
  |str b=>obtain⟨t,rfl⟩:=rx;exact SeqAt.EqAt.int_str a t' b t
  |_=>exact absurd (show false=true from fx) aU
 |str a =>
  obtain⟨t',rfl⟩:=ry
  cases x with
  |non=>cases rx;exact SeqAt.EqAt.str_none a t'
  |bl b=>cases rx;exact SeqAt.EqAt.str_bool a t' b
  |int b=>obtain⟨t,rfl⟩:=rx;exact SeqAt.EqAt.str_int a t' b t
  |str b=>obtain⟨t,rfl⟩:=rx;exact SeqAt.EqAt.str_str a t' b t
  |_=>exact absurd (show false=true from fx) aU
 |_=>exact absurd (show false=true from fy) aU
noncomputable def eqU(x:V)(u:Value):Bool:=match u with
 |.none=>eqV .non x
 |.bool b=>eqV (.bl b) x
 |.int i _=>eqV (.int i) x
 |.str z _=>eqV (.str z) x
 |_=>false
theorem am0(r:RelV y u)(f:a2o y=true):eqU x u=eqV y x:=by
 cases y with
 |non=>cases r;rfl
 |bl b=>cases r;rfl
 |int i=>obtain⟨t,rfl⟩:=r;rfl
 |str z=>obtain⟨t,rfl⟩:=r;rfl
 |_=>exact absurd (show false=true from f) aU
theorem a5l:∀{xs:List V} {us:List Value},Vals xs us->xs.all a2o=true->us.any (eqU x)=xs.any λy=>eqV y x
 |_,_,.nil,_=>rfl
 |y::xs,u::us,.cons r t,f=>by
  rw[bC,af]at f;rw[fQ,fQ,am0 r f.1,a5l t f.2]
theorem a3j(rx:RelV x v)(fx:a2o x=true):∀{xs:List V} {us:List Value},Vals xs us->xs.all a2o=true->∀u∈us,SeqAt.EqAt A s u v (eqU x u)
 |_,_,.nil,_=>λu hu=>by cases hu
 |y::xs,u::us,.cons r t,f=>λu' hu=>by
  rw[bC,af]at f
  rcases aZ.mp hu with rfl|hu
  .rw[am0 r f.1];exact af3 r rx f.1 fx
  .exact a3j rx fx t f.2 u' hu
noncomputable def inV(x:V)(xs:List V):Bool:=xs.any λy=>eqV y x
noncomputable def rIn(K:Fg)(neg:Bool):R2:=λx y H Q=>∃p xs,y=.ref p/\(SqL K H p xs\/SqT K H p xs)/\a2o x=true/\xs.all a2o=true/\Q (.bl (if neg then !inV x xs else inV x xs)) H
theorem a8m:OpR X (compareOp .In) (rIn X.K false):=by
 intro aA s σ H x y v u Q I rx ry h
 obtain⟨p,xs,rfl,hq,fx,fs,q⟩:=h;cases ry
 rcases hq with hq|hq
 .obtain⟨its,r,pl,hz⟩:=I.list hq;refine SeqAt.in_listAt (eqU x) pl.isList (λw hw=>a3j rx fx r fs w (by simpa using hw)) ⟨.bl _,H,I,rfl,?_⟩
  rw[show its.toArray.any (eqU x)=its.any (eqU x) by simp,a5l r fs]
  exact q
 .obtain⟨its,r,pl,hz⟩:=I.tuple hq;refine SeqAt.in_tupleAt (eqU x) pl (λw hw=>a3j rx fx r fs w (by simpa using hw)) ⟨.bl _,H,I,rfl,?_⟩
  rw[show its.toArray.any (eqU x)=its.any (eqU x) by simp,a5l r fs]
  exact q
theorem a8n:OpR X (compareOp .NotIn) (rIn X.K true):=by
 intro aA s σ H x y v u Q I rx ry h
 obtain⟨p,xs,rfl,hq,fx,fs,q⟩:=h;cases ry
 rcases hq with hq|hq
 .obtain⟨its,r,pl,hz⟩:=I.list hq;refine SeqAt.notIn_listAt (eqU x) pl.isList (λw hw=>a3j rx fx r fs w (by simpa using hw)) ⟨.bl _,H,I,rfl,?_⟩
  rw[show its.toArray.any (eqU x)=its.any (eqU x) by simp,a5l r fs]
  exact q
 .obtain⟨its,r,pl,hz⟩:=I.tuple hq;refine SeqAt.notIn_tupleAt (eqU x) pl (λw hw=>a3j rx fx r fs w (by simpa using hw)) ⟨.bl _,H,I,rfl,?_⟩
  rw[show its.toArray.any (eqU x)=its.any (eqU x) by simp,a5l r fs]
  exact q
theorem a8o:CallR X (.builtin "len") (λxs H Q=>∃p ys,xs=[.ref p]/\(SqL X.K H p ys\/SqT X.K H p ys)/\Q (.int ys.length) H):=by
 intro aA s σ H xs us Q I r h
 obtain⟨p,ys,rfl,hq,q⟩:=h;obtain⟨u,rfl,rx⟩:=vals1 r;cases rx
 have hn:=a4r
 rcases hq with hq|hq
 .obtain⟨its,r',pl,hz⟩:=I.list hq;have aH:=r'.length;exact Calls.call_len_list pl.isList (by simp only[aw]<;>omega) ⟨.int ys.length,H,I.tok _,⟨s.toks+1,by rw[aw,aH]⟩,q⟩
 .obtain⟨its,r',pl,hz⟩:=I.tuple hq;have aH:=r'.length;exact len_tuple pl (by simp only[aw]<;>omega) ⟨.int ys.length,H,I.tok _,⟨s.toks+1,by rw[aw,aH]⟩,q⟩
theorem a8p:CallR X (.builtin "len") (λxs H Q=>∃z,xs=[.str z]/\z.length<=sizeLine/\Q (.int z.length) H):=by
 intro aA s σ H xs us Q I r h
 obtain⟨z,rfl,hz,q⟩:=h;obtain⟨u,rfl,t,rfl⟩:=vals1 r;have hn:=a4r;exact len_str (by omega) ⟨.int z.length,H,I.tok _,⟨_,rfl⟩,q⟩
theorem CallR.or(h:CallR X f r)(h':CallR X f r'):CallR X f (λxs H Q=>r xs H Q\/r' xs H Q):=by
 intro aA s σ H xs us Q I rs q
 rcases q with q|q
 .exact h aA s σ H xs us Q I rs q
 .exact h' aA s σ H xs us Q I rs q
theorem a8q:CallR X (.type "list") (λxs H Q=>∃p ys,xs=[.ref p]/\(SqL X.K H p ys\/SqT X.K H p ys)/\∀l,H l=none->Q (.ref l) (upd H l (.lst ys))):=by
 intro aA s σ H xs us Q I r h
 obtain⟨p,ys,rfl,hq,q⟩:=h;obtain⟨u,rfl,rx⟩:=vals1 r;cases rx
 have fin:∀(its:List Value),Vals ys its->ys.length<=sizeLine->∀(h':Heap) (c':Nat),(∀b o',s.heap.get? b=some o'->h'.get? b=some o')->
   h'.get? s.heap.objs.size=some {cls:=.type "list",dict:=none,data:=.seq its.toArray c',slots := #[]}->EP X aA σ Q (.ref s.heap.objs.size) {s with heap:=h' }:=λits r' hz h' c' kp e =>
  ⟨.ref s.heap.objs.size,_,I.laid (t':=s.toks) kp (a9 _) (show ObjOk X.prog X.w _ h' _ (.lst ys) from ⟨hz,its,c',r',e⟩),rfl,q _ (I.hok.fresh (a9 _))⟩
 rcases hq with hq|hq
 .obtain⟨its,r',pl,hz⟩:=I.list hq;have aH:=r'.length;obtain⟨o,ho,hc,n,hd⟩:=pl.isList;exact call_list_seq p (.inl rfl) ho hc hd (λh' c' kp e=>fin its r' hz h' c' kp e) (by simp only[aw]<;>omega)
 .obtain⟨its,r',pl,hz⟩:=I.tuple hq;have aH:=r'.length;obtain⟨o,ho,hc,n,hd⟩:=pl;exact call_list_seq p (.inr rfl) ho hc hd (λh' c' kp e=>fin its r' hz h' c' kp e) (by simp only[aw]<;>omega)
theorem a7i:CallR X (.type "tuple") (λxs H Q=>∃p ys,xs=[.ref p]/\((SqL X.K H p ys/\∀l,H l=none->Q (.ref l) (upd H l (.tup ys)))\/(SqT X.K H p ys/\Q (.ref p) H))):=by
 intro aA s σ H xs us Q I r h
 obtain⟨p,ys,rfl,h⟩:=h;obtain⟨u,rfl,rx⟩:=vals1 r;cases rx
 rcases h with⟨hq,q⟩|⟨hq,q⟩
 .obtain⟨its,r',pl,hz⟩:=I.list hq;have aH:=r'.length;refine call_tuple_list pl.isList (λh' kp=>?_) (by simp only[aw]<;>omega)
  have I1:Inv X aA σ H {s with heap:=h' }:=I.kept (t':=s.toks) kp
  have I2:Inv X aA σ (upd H h'.objs.size (.tup ys)) {s with heap:=h'.push {cls:=.type "tuple",data:=.seq its.toArray} } :=
   I1.laid (t':=s.toks) (λb o e=>aI _ e) (a9 _) (show ObjOk X.prog X.w _ _ _ (.tup ys) from ⟨hz,its,r',TupD.new _ _⟩)
  exact⟨.ref h'.objs.size,_,I2,rfl,q _ (I1.hok.fresh (a9 _))⟩
 .obtain⟨its,r',pl,hz⟩:=I.tuple hq;exact call_tuple_same pl ⟨.ref p,H,I,rfl,q⟩
def tyV(K:Fg)(T:String)(x:V)(H:Hp):Prop:=match x with
 |.str _=>T = "str"
 |.int _=>T = "int"
 | .ref p=>(T = "list"/\∃xs,SqL K H p xs)\/(T = "tuple"/\((∃o,K.lookup p=some o/\o.cls=.type "tuple"/\o.dict=none)\/∃xs,H p=some (.tup xs))) \/
   (T = "dict"/\((∃kvs,H p=some (.dK kvs))\/∃kvs,H p=some (.dT kvs)))\/(T = "set"/\∃S n,H p=some (.set S n))
 |_=>False
theorem am1(I:Inv X aA σ H s)(r:RelV x v)(ty:tyV X.K T x H) :
  s.TypeIs v T/\∀a,v=.ref a->∃ob,s.heap.get? a=some ob/\ob.dict=none:=by
 cases x with
 |str z =>
  obtain⟨t,rfl⟩:=r
  cases (show T = "str" from ty)
  exact⟨typeIs_str s z t,λ_ e=>nomatch e⟩
 |int i =>
  obtain⟨t,rfl⟩:=r
  cases (show T = "int" from ty)
  exact⟨dJ s i t,λ_ e=>nomatch e⟩
 |ref p =>
  cases r
  rcases ty with⟨rfl,xs,hq⟩|⟨rfl,⟨o,hk,hc,hd⟩|⟨xs,hk⟩⟩|⟨rfl,hk⟩|⟨rfl,S,n,hk⟩
  .obtain⟨its,_,pl,_⟩:=I.list hq;refine⟨pl.isList.typeIs,λa e=>?_⟩;cases e
   obtain⟨o,n,e,c,hd,_⟩:=pl;exact⟨o,e,hd⟩
  .refine⟨⟨o,I.kIn p o hk,hc⟩,λa e=>?_⟩;cases e
   exact⟨o,I.kIn _ o hk,hd⟩
  .obtain⟨_,_,_,o,e,c,_⟩:=(show ObjOk X.prog X.w H s.heap p (.tup xs) from I.hok p _ hk)
   exact⟨⟨o,e,c.1⟩,λa z=>by cases z;exact⟨o,e,c.2⟩⟩
  .have z:∃o,s.heap.get? p=some o/\o.ExactDict:=by
    rcases hk with⟨kvs,hk⟩|⟨kvs,hk⟩
    .obtain⟨_,_,_,_,o,_,_,e,ex,_⟩:=I.hok p _ hk;exact⟨o,e,ex⟩
    .obtain⟨_,_,_,_,o,_,_,e,ex,_⟩:=I.hok p _ hk;exact⟨o,e,ex⟩
   obtain⟨o,e,ex⟩:=z;refine⟨⟨o,e,ex.1⟩,λa e2=>?_⟩;cases e2
   exact⟨o,e,ex.2.1⟩
  .obtain⟨o,_,_,_,e,ex,_⟩:=I.hok p _ hk;refine⟨⟨o,e,ex.1⟩,λa e2=>?_⟩;cases e2
   exact⟨o,e,ex.2.1⟩
 |_=>exact False.elim ty
def tBM(K:Fg)(T:String)(r:V->List V->Hp->VK->Prop)(to:TE)(t:TA):TE:=λσ H Q=>to σ H λx H1=>tyV K T x H1/\t σ H1 λxs H2=>r x xs H2 Q
variable{o e:Expr}{es:List Expr}{to:TE}{t:TA}{name:Str}{apos cpos:Pos}{T id:String}{r:V->List V->Hp->VK->Prop}
theorem axv(pa:PlainAttrs T)(slot:Slot T name id)(hty:typeOf (.builtin id)=pure (.type "method_descriptor"))(hm:MtR X id r)(ho:PE X o to)(ha:PA X (e::es) t)
  (hbase:attributeBase o name X.env (eval o X.env)=eval o X.env:=by rfl)
  (hfew:((backTo cpos (starEach (e::es) X.env)).all (λx => !x.1) && (backToKw cpos (keywordEach [] X.env)).all (λx=>x.1.isSome)
   && decide ((e::es).length+([]:List Keyword).length+(if ([]:List Keyword).isEmpty then 0 else 1)<30))=true:=by rfl)
  (hline:(apos.endLine == cpos.line)=true:=by rfl) (hs:starEach (e::es) X.env=(false,eval e X.env)::starEach es X.env:=by rfl) (hplain:(backTo cpos (starEach es X.env)).any (·.1)=false:=by rfl) :
  PE X (.Call (.Attribute o name apos) (e::es) [] cpos) (tBM X.K T r to t):=by
 intro aA s σ H Q I h
 refine wpAny_Call_method_late hbase hfew hline rfl (thn (ho aA s σ H _ I h) λv s1 ⟨x,H1,I1,r1,ty,q1⟩=>?_);obtain⟨h1,h2⟩:=am1 I1 r1 ty;refine⟨T,id,pa,slot,hty,h1,h2,?_⟩;have hA:=ha cpos aA s1 σ H1 _ I1 q1;rw[hs]at hA ⊢;refine Calls.callWith_builtin (by show(false || (backTo cpos (starEach es X.env)).any (·.1))=false;rw[hplain]<;>rfl) (eY ?_)
 exact thn hA λus s2 ⟨vs,H2,I2,r2,q2⟩=>hm aA s2 σ H2 x vs v us Q I2 r1 r2 q2
end
def MtM(X:Cx)(id:String)(r:V->List V->Hp->VK->Prop):Prop :=
 ∀(aA:List (Addr×Obj)) (s:Shared) (σ:St) (H:Hp) (x:V) (xs:List V) (v:Value) (us:List Value) (Q:VK),Inv X aA σ H s->RelV x v->Vals xs us->r x xs H Q->
  wpAny (model X.prog X.w) X.A (call (.builtin id) (v::us)) (EP X aA σ Q) X.xe s
theorem Vals.one:∀{x:V} {us:List Value},Vals [x] us->∃u,us=[u]/\RelV x u
 |_,_,.cons r .nil=>⟨_,rfl,r⟩
theorem Vals.zero:∀{us:List Value},Vals [] us->us=[]
 |_,.nil=>rfl
theorem Vals.rep(h:Vals xs us):∀k:Nat,Vals (List.replicate k xs).flatten (List.replicate k us).flatten
 |0=>.nil
 |k+1=>by
  rw[bZ,bZ,bU,bU];exact Vals.append h (Vals.rep h k)
theorem foldl_rep(its:List Value):∀(k:Nat) (acc:List Value),
  List.foldl (λx1 x2=>x1++x2) acc.toArray (List.replicate k its.toArray)=(acc++(List.replicate k its).flatten).toArray
 |0,acc=>by simp
 |k+1,acc=>by
  have e:acc.toArray++its.toArray=(acc++its).toArray:=by simp
  have e2:(acc++its)++(List.replicate k its).flatten=acc++(List.replicate (k+1) its).flatten:=by
   rw[bZ,bU,dZ]
  rw[<-e2,<-foldl_rep its k (acc++its),<-e,bZ,dC]
section
variable{X:Cx}{aA:List (Addr×Obj)}{σ:St}{H:Hp}{s:Shared}{l b:Addr}{xs ys zs:List V}
theorem Inv.lset{its its':List Value}(I:Inv X aA σ H s)(hH:H l=some (.lst xs))
  (e:s.heap.get? l=some {cls:=.type "list",data:=.seq its.toArray n}) (hf:f its.toArray=its'.toArray) (hv:Vals ys its') (hz:ys.length<=sizeLine) :
  Inv X aA σ (upd H l (.lst ys)) {s with heap:=s.heap.update l (Obj.mapSeq f),toks:=t' }:=by
 have q:=PySem.IsL.update e f;rw[hf]at q;refine I.write (x:=l) (e:=l) (by rw[hH];exact trivial) (.inl rfl) (λb' u hb hu=>(eM s.heap (Obj.mapSeq f) (eD hb)).trans hu) ⟨_,q⟩ ?_
 exact⟨hz,its',_,hv,q⟩
theorem Inv.lnew(I:Inv X aA σ H s)(hv:Vals ys its)(hz:ys.length<=sizeLine) :
  Inv X aA σ (upd H s.heap.objs.size (.lst ys)) {s with heap:=s.heap.push {cls:=.type "list",data:=.seq its.toArray},toks:=t' } :=
 I.laid (λ_ _ q=>aI _ q) (a9 _) ⟨hz,its,0,hv,bo _ rfl⟩
theorem Inv.fresh(I:Inv X aA σ H s):H s.heap.objs.size=none:=I.hok.fresh (a9 _)
theorem Inv.lstM(I:Inv X aA σ H s)(hH:H l=some (.lst xs)):xs.length<=sizeLine/\∃(its:List Value) (n:Nat),Vals xs its/\xs.length=its.length/\s.heap.get? l=some {cls:=.type "list",data:=.seq its.toArray n}:=by
 obtain⟨z,its,n,r,e⟩:=I.hok l _ hH;exact⟨z,its,n,r,r.length,e⟩
theorem a5c(h:n<=sizeLine):Builtin.List.listTooLong n=false:=by
 unfold Builtin.List.listTooLong;exact ar (by omega)
end
section
variable{X:Cx}
def af4:V->List V->Hp->VK->Prop:=λx vs H Q=>∃l xs y,x=.ref l/\vs=[y]/\H l=some (.lst xs)/\xs.length<sizeLine/\Q .non (upd H l (.lst (xs++[y])))
theorem af5:MtM X "list.append" af4:=by
 intro aA s σ H x vs v us Q I rx rv h
 obtain⟨l,xs,y,rfl,rfl,hH,hz,q⟩:=h;cases rx
 obtain⟨u,rfl,ru⟩:=rv.one;obtain⟨z,its,n,r,hl,e⟩:=I.lstM hH;refine cN F.slot_list_append ⟨_,e,rfl⟩ F.entry_list_append (F.args_list_append_2 _ _) (PySem.list_append l its.toArray n u (by rw[aw];omega)) ⟨e,?_⟩
 refine⟨.non,_,I.lset (its':=its++[u]) hH e (by simp) (r.append (.cons ru .nil)) ?_,rfl,q⟩
 rw[ae,aE];omega
noncomputable def aqv:R2:=λx y H Q=>∃l k xs,x=.ref l/\y=.int k/\H l=some (.lst xs) /\ -(2^63)<=k/\k<2^63/\xs.length*k.toNat<=sizeLine /\
 ∀p,H p=none->Q (.ref p) (upd H p (.lst (List.replicate k.toNat xs).flatten))
theorem len_rep{α:Type}(xs:List α)(k:Nat):(List.replicate k xs).flatten.length=k*xs.length:=by
 induction k with
 |zero=>simp
 |succ k ih=>rw[bZ,bU,ae,ih,dS,eS]
theorem am2:OpR X (binaryOp .Mult) aqv:=by
 intro aA s σ H x y v u Q I rx ry h
 obtain⟨l,k,xs,rfl,rfl,hH,h1,h2,hz,q⟩:=h;cases rx
 obtain⟨t,rfl⟩:=ry;obtain⟨z,its,n,r,hl,e⟩:=I.lstM hH;have aH:its.toArray.size*k.toNat<=sizeLine:=by rw[aw,<-hl];exact hz
 have hcap:¬ its.toArray.size*k.toNat > (2^63-1) / 8:=by
  have:(sizeLine:Nat)<=(2^63-1) / 8:=by decide
  omega
 have hfit:¬ (!Builtin.List.listFitsIndex k)=true:=by
  rw[fitsIndex_both h1 h2];exact aU
 have hlong:¬ Builtin.List.listTooLong (its.toArray.size*k.toNat)=true:=by
  rw[a5c aH];exact aU
 have hnew:List.foldl (λx1 x2=>x1++x2) #[] (List.replicate (if its.toArray.isEmpty=true then 0 else k.toNat) its.toArray)=(List.replicate k.toNat its).flatten.toArray:=by
  have f0:∀m:Nat,List.foldl (λx1 x2=>x1++x2) #[] (List.replicate m its.toArray)=(List.replicate m its).flatten.toArray:=λm=>by
   have:=foldl_rep its m []
   rw[bG]at this;exact this
  rw[f0]
  cases its with
  |nil=>simp
  |cons a r'=>rw[aO (by simp)]
 refine cM (T := "list") (U := "int") (by decide) ⟨_,e,rfl⟩ (λs'=>dJ s' k t) noFill_list_mul eF cI repeat_list eh.lookup
  (cN cI (dJ s k t) ei (e7 _ _) (int___rmul___int_list k t l its.toArray n)
   ⟨e,rfl,⟨_,e,rfl⟩,cN F.slot_list_mul ⟨_,e,rfl⟩ F.entry_list_mul (F.args_list_mul_2 _ _) (eG l its.toArray n k t hfit hcap hlong) ⟨e,?_⟩⟩)
 rw[hnew];exact⟨.ref _,_,I.lnew (t':=s.toks) (r.rep k.toNat) (by rw[len_rep,eC];exact hz),rfl,q _ I.fresh⟩
end
end L2
namespace Att
open PySem.W PySem.Calls PyProof.Rows
theorem a5m:∀(ns:List Int) (vs:List Value),WellAll P h vs (ns.map WData.int)->IntsAre vs ns:=by
 intro ns
 induction ns with
 |nil =>
  intro vs w
  rw[cY]at w;cases w
  exact .nil
 |cons n ns ih =>
  intro vs w
  rw[bg]at w
  cases w with
  |cons a b =>
   cases a
   exact .cons _ _ (ih _ b)
theorem af6{l:OpenLaw}(hn:l.most=some n)
  (hpre:l.row.toRowW.claim.pre args=true) (hwl:WellAll P h vals args) :
  ∃a vs ns,vals=[Value.ref a]/\args=[WData.list (ns.map WData.int)]/\h.get? a=some {cls:=.type "list",data:=.seq vs.toArray}/\IntsAre vs ns/\ns.length<=n:=by
 have hsh:WShape.hasAll [] args [.list .int]=true:=(pre_splitW hpre).1;have hc:l.pre.holds [] {args:=args}=true:=(pre_splitW hpre).2;obtain⟨d,r,rfl,h1,h2⟩:=hasAllW_cons hsh;obtain rfl:=hasAllW_nil h2;obtain⟨xs,rfl,h3⟩:=hasW_list h1;obtain⟨ns,rfl⟩:=items_int h3;have aH:ns.length<=n:=by
  unfold OpenLaw.pre at hc;have h4:(WTm.not (.lt (.lit (.int (n:Int))) (.len (.arg 0)))).holds [] {args:=[.list (ns.map .int)]}=true:=by
   have h4:=(holds_andW hc).1;rw[hn]at h4;exact h4
  have h5:=condW_of h4 (w_not (w_lt w_lit (w_len_list (w_arg rfl))));rw[aJ]at h5;refine Nat.le_of_not_lt λq=>?_;have q':(n:Int)<((ns.length:Nat):Int):=by omega
  first
   |(rw[ay q']at h5;exact absurd h5 (by decide))
   |(simp at h5;omega)
 cases hwl with
 |cons w1 w2 =>
  cases w2
  cases w1 with
  |list ho hall=>exact⟨_,_,ns,rfl,rfl,ho,a5m ns _ hall,aH⟩
theorem af7(l:OpenLaw)(args:List WData):l.row.toRowW.claim.post args (.bool true) args=true :=
 postW_of (r:=l.row.toRowW) (X:=(true == true))
  (show WShape.has [] (.bool true) .bool=true by first|rfl|decide|simp[WShape.has,WShape.arms,WShape.armsAll])
  (show(WTm.eq .res (.lit (.bool true))).value [] {args:=args,res:=some (.bool true),after:=args}=some (.bool (true == true)) from w_eq_bool (w_res rfl) w_lit) rfl
theorem aaa{l:OpenLaw}{d:DefRec}
  (hn:l.most=some n) (hdf:d.params.defaults=[])
  (call:∀(w:World) (s₀ s₁:Shared) (mg mb:Str->Option Value) (fa:Addr) (o:Obj) (pm cd doc:Value) (a:Addr) (vs:List Value) (ns:List Int),
   Ground q loose [] XP w s₀ mg mb s₁.heap->YP w s₁.heap->
   s₁.heap.get? fa=some o->o.data=.func (docDef d.name d.params d.body d.scope pm cd doc)->s₁.heap.CodeRec cd d.name->mg d.name=some (.ref fa)->
   s₁.heap.get? a=some {cls:=.type "list",data:=.seq vs.toArray}->IntsAre vs ns->ns.length<=n->s₁.gens = #[]->
   codeAny (model l.prog w) callerA (.call (.ref fa) ⟨[.ref a],[]⟩) (λr s'=>r=.ok (.ret (.bool true))/\OldK s₁.heap s'.heap/\s'.os=s₁.os/\AllBare s'.gens) s₁) :
  WalkO q loose XP YP l.row.toRowW d [] (λf vs=>PySem.call f vs):=by
 intro w s₀ s₁ mg mb G Y fa o pm cd doc dV kV ho hd hcd hD hmg hg args vals as hpre hlay hrd hwl hlo
 obtain rfl:dV=.none:=Dflts.none hD hdf
 obtain rfl:kV=.none:=Dflts.noKw hD
 obtain⟨a,vs,ns,rfl,rfl,hobj,hints,aH⟩:=af6 hn hpre hwl;refine enter_call (eR (call w s₀ s₁ mg mb fa o pm cd doc a vs ns G Y ho (fd_plain hd) hcd hmg hobj hints aH hg) λr s' hq=>?_);obtain⟨rfl,h2,h3,h4⟩:=hq;exact⟨.inl ⟨.bool true,.bool true,[],rfl,λ_=>rfl,.bool true,af7 l _,λ_=>⟨List.Pairwise.nil,λ_ hm=>(nomatch hm)⟩⟩,h2,h3,h4⟩
end Att
namespace L2
open PyProof.Rows
theorem a8r:∀{vs:List Value} {ns:List Int},IntsAre vs ns->Vals (ns.map V.int) vs
 |_,_,.nil=>.nil
 |_,_,.cons n t h=>.cons ⟨t,rfl⟩ (a8r h)
def Only(H:Hp):Prop:=∀b,H b=none\/∃o xs,H b=some (.frz o (.lst xs))
theorem aiy{K:Fg}{s₁:Shared}{vs:List Value}
  (KX:K.In s₁.heap) (hns:s₁.heap.Ns mainGlobals mg) (hb:s₁.heap.Ns builtinsNs mb) (hbb:∀x:Str,x ≠ "__name__"->mb x=bootBuiltins x) (hlim:s₁.heap.NoLimit) (hg:s₁.gens = #[])
  (ha:s₁.heap.get? a=some {cls:=.type "list",data:=.seq vs.toArray}) (hi:IntsAre vs ns) (hl:ns.length<=sizeLine) (hr:Room k callerA)
  (F:∀base:Heap,K.In base->base.Ns mainGlobals mg->FnOk P w K mg base CX k fa fd [x] sp) (hbind:∀(s:Shared) (u:Value),BindsTo s fd ⟨[u],[]⟩ [(x,u)])
  (hsp:∀H:Hp,Only H->SqL K H a (ns.map V.int)->sp [.ref a] H (λv _=>v=.bl true) λ_ _ _=>False)
  (hCX:∀H e s',CX [] H s₁ (λ_ _ _=>False) e s'->False) :
  codeAny (model P w) callerA (.call (.ref fa) ⟨[.ref a],[]⟩) (λr s'=>r=.ok (.ret (.bool true))/\OldK s₁.heap s'.heap/\s'.os=s₁.os/\AllBare s'.gens) s₁:=by
 have rv:=a8r hi;have lenV:=hi.length;have core:∀H:Hp,Only H->SqL K H a (ns.map V.int)->HOk P w H s₁.heap->(∀b,H b≠none->b=a)->(H a≠none->K.lookup a=none)->
   codeAny (model P w) callerA (.call (.ref fa) ⟨[.ref a],[]⟩) (λr s'=>r=.ok (.ret (.bool true))/\OldK s₁.heap s'.heap/\s'.os=s₁.os/\AllBare s'.gens) s₁:=by
  intro H hO hS hok hA hK
  have base_of:∀{b:Addr} {o:Obj},s₁.heap.get? b=some o->H b=none->(aif s₁.heap H).get? b=some o:=λe n=>aig e n;have noA:∀{b:Addr} {o:Obj} {es:Array DictEntry} {ep:Nat},s₁.heap.get? b=some o->o.data=.dict es ep->H b=none:=λ{b o es ep} e d=>by
   cases q:H b with
   |none=>rfl
   |some u =>
    have e':b=a:=hA b (by rw[q];simp)
    subst e';rw[ha]at e;cases e
    have d':Data.seq vs.toArray _=Data.dict es ep:=d
    cases d'
  have nsK:∀{b:Addr} {m:Str->Option Value},s₁.heap.Ns b m->(aif s₁.heap H).Ns b m:=λ{b m} ⟨o,es,ep,e,d,r⟩=>⟨o,es,ep,base_of e (noA e d),d,r⟩;have hKb:K.In (aif s₁.heap H):=λb o e=>base_of (KX b o e) (by
   cases q:H b with
   |none=>rfl
   |some u =>
    have e':b=a:=hA b (by rw[q];simp)
    subst e';rw[hK (by rw[q];simp)]at e;cases e)
  have hM:Mod K mg (aif s₁.heap H):=⟨hKb,nsK hns,⟨mb,nsK hb,hbb⟩,let ⟨mc,h1,h2⟩:=hlim; ⟨mc,nsK h1,h2⟩⟩;have e0:Env0 P w K mg (aif s₁.heap H) callerA [] s₁ H:=⟨rfl,hM,λb o e=>anm e,Nat.le_of_eq (aeh _ _),trivial,λb hb=>absurd (show b∈([]:List Addr) from hb) (by simp),hok,.of_eq hg⟩
  refine eR ((F _ hKb (nsK hns)).run callerA [] s₁ H ⟨[.ref a],[]⟩ [.ref a] [.ref a] _ _ hr e0 (hbind s₁ (.ref a)) (.cons rfl .nil) (hsp H hO hS)) λr s' h=>?_
  cases r with
  |error e=>exact(hCX H e s' h).elim
  |ok fl =>
   cases fl with
   |next=>exact False.elim h
   |brk=>exact False.elim h
   |cont=>exact False.elim h
   |ret u =>
    obtain⟨v,H',os,bare,un,hok',r',q⟩:=h;have q':v=.bl true:=q;subst q';obtain rfl:u=Value.bool true:=r';refine⟨rfl,OldK.of_keep λb o e=>?_,os,bare⟩
    cases q:H b with
    |none=>exact un.keep b o e q (by intro z;exact absurd (show b∈([]:List Addr) from z) (by simp)) (by simp)
    |some u =>
     rcases hO b with z|⟨ob,xs,z⟩
     .rw[q]at z;cases z
     .have z2:=un.frzs b ob _ z;obtain⟨e1,_⟩:=hok b _ z;obtain⟨e2,_⟩:=hok' b _ z2;rw[e]at e1;cases e1
      exact e2
 cases hk:K.lookup a with
 |some o =>
  have e:=KX a o hk;rw[ha]at e;cases e
  refine core (λ_=>none) (λ_=>.inl rfl) (.inr ⟨_,vs.toArray,_,hk,rfl,rfl,rfl,by rw[aw,lenV];exact hl,by simpa using rv⟩) (λb u z=>by have z':(none:Option HO)=some u:=z;cases z') (λb z=>absurd rfl z) λz=>absurd rfl z
 |none =>
  refine core (λb=>if b=a then some (.frz {cls:=.type "list",data:=.seq vs.toArray} (.lst (ns.map V.int))) else none) (λb=>?_) (.inl (.inr ⟨{cls:=.type "list",data:=.seq vs.toArray},av rfl⟩)) (λb u z=>?_) (λb z=>?_) λ_=>hk
  .by_cases hb:b=a
   .exact .inr ⟨_,_,av hb⟩
   .exact .inl (aO hb)
  .by_cases hb:b=a
   .have z':=(av hb).symm.trans z
    cases z'
    subst hb;exact⟨ha,by rw[aJ];exact hl,vs,_,rv,ha⟩
   .have z':=(aO hb).symm.trans z
    cases z'
  .by_cases hb:b=a
   .exact hb
   .exact absurd (aO hb) z
theorem ao7{l:PySem.W.OpenLaw}{n k:Nat}{q:Program}{loose:List Str}{XP:(Str->Option Value)->Heap->Prop}{YP:World->Heap->Prop}{d:DefRec}{K:Params->Fg}{CX:World->CXT}{sp:World->Sp}{x:Str}
  (hn:l.most=some n) (hn2:n<=sizeLine) (hdf:d.params.defaults=[]) (hr:Room k callerA)
  (hY:∀(w:World) (h:Heap),YP w h->(K w.params).In h)
  (F:∀(w:World) (mg:Str->Option Value) (fa:Addr) (h:Heap),(K w.params).In h->h.Ns mainGlobals mg->mg d.name=some (.ref fa)->
   ∃fd:FuncData,(∀(s:Shared) (u:Value),BindsTo s fd ⟨[u],[]⟩ [(x,u)]) /\
    ∀base:Heap,(K w.params).In base->base.Ns mainGlobals mg->FnOk l.prog w (K w.params) mg base (CX w) k fa fd [x] (sp w))
  (hsp:∀(w:World) (H:Hp) (a:Addr) (ns:List Int),ns.length<=n->Only H->SqL (K w.params) H a (ns.map V.int)->sp w [.ref a] H (λv _=>v=.bl true) λ_ _ _=>False)
  (hCX:∀(w:World) (H:Hp) (s:Shared) (e:Value) (s':Shared),CX w [] H s (λ_ _ _=>False) e s'->False) :
  PySem.W.WalkO q loose XP YP l.row.toRowW d [] (λf vs=>PySem.call f vs):=by
 refine Att.aaa hn hdf λw s₀ s₁ mg mb fa o pm cd doc a vs ns G Y ho hd hcd hmg hobj hints aH hg=>?_;have KX:=hY w _ Y;obtain⟨fd,hb,hF⟩:=F w mg fa _ KX G.T.g hmg;exact aiy KX G.T.g G.T.b G.T.builtins G.T.nolimit hg hobj hints (bE aH hn2) hr hF hb (λH hO hS=>hsp w H a ns aH hO hS) λH e s'=>hCX w H s₁ e s'
noncomputable def a2p(s:Stmt):Arguments:=match s with
 |.FunctionDef _ a _ _ _ _ _ _ _ _=>a
 |_=>{posonlyargs:=[],args:=[],vararg:=none,kwonlyargs:=[],kw_defaults:=[],kwarg:=none,defaults:=[]}
noncomputable def uq(s:Stmt):List Stmt:=match s with
 |.FunctionDef _ _ b _ _ _ _ _ _ _=>b
 |_=>[]
noncomputable def ig(s:Stmt):Scope:=match s with
 |.FunctionDef _ _ _ _ _ _ sc _ _ _=>sc
 |_=>{kind:=.function,names:=[],isGenerator:=false,isCoroutine:=false}
abbrev CX0:CXT:=λ_ _ _ _ _ _=>False
abbrev E0:XK:=λ_ _ _=>False
theorem ao8:abn CX0 X E0:=λ_ _ _ _ _ _ _ h=>h.elim
structure Fun (K:Fg) (x qual:Str) (st:Stmt) (f:Addr) (fd:FuncData):Prop where
 ex:∃(oc:Value) (od:Option Addr) (kV doc pm:Value) (an:Option Addr) (cdv ct:Value) (osl:Array (Option Value)),
  fd=PySem.W.fnOf x qual (a2p st) (uq st) (ig st) .none kV doc pm an cdv ct/\K.lookup f=some ⟨oc,od,.func fd,osl⟩/\PySem.W.codeIn K cdv qual=true
 kp:PySem.W.keepIn K (.ref f)=true
section
variable{P:Program}{w:World}{K:Fg}{mg:Str->Option Value}{base:Heap}
theorem Fun.ok{x qual:Str}{st:Stmt}{f:Addr}{fd:FuncData}{N ps:List Str}{k:Nat}{sp:Sp}(F:Fun K x qual st f fd)(S:FnScope N ps (ig st))(len:∀vs H Q E,sp vs H Q E->vs.length=ps.length)
  (hbody:∀(cdv:Value) (A:Around) (outer:List Env) (s:Shared) (H:Hp) (vs:List V) (Q:VK) (E:XK),Room k (A.deeper (envOfC qual (ig st) s.heap.objs.size f cdv))->sp vs H Q E->
   ∃t,PSs (aex CX0 P w K mg base N qual (ig st) f cdv A outer s H E).nox (uq st) t/\t {nx:=λ_ H'=>Q .non H',rt:=Q} (start N vs) H):FnOk P w K mg base CX0 (k+1) f fd ps sp:=by
 obtain⟨oc,od,kV,doc,pm,an,cdv,ct,osl,rfl,lk,hcd⟩:=F.ex;refine asa lk hcd S len λA outer s H vs Q E hr hsp=>?_;obtain⟨t,h,q⟩:=hbody cdv A outer s H vs Q E hr hsp;exact⟨t,h.nox,q⟩
theorem Fun.binds{x qual:Str}{st:Stmt}{f:Addr}{fd:FuncData}{ps:List Str}(F:Fun K x qual st f fd)
  (h:∀(kV doc pm:Value) (an:Option Addr) (cdv ct:Value) (us:List Value),us.length=ps.length->bindArgs (PySem.W.fnOf x qual (a2p st) (uq st) (ig st) .none kV doc pm an cdv ct) ⟨us,[]⟩=pure (ps.zip us)):Binds K fd ps []:=by
 obtain⟨oc,od,kV,doc,pm,an,cdv,ct,osl,rfl,lk,hcd⟩:=F.ex;exact .all (h kV doc pm an cdv ct)
theorem asi{x qual:Str}{st:Stmt}{f:Addr}{oc:Value}{od an:Option Addr}{osl:Array (Option Value)}{kV doc pm cdv ct:Value}(l:K.lookup f=some ⟨oc,od,.func (PySem.W.fnOf x qual (a2p st) (uq st) (ig st) .none kV doc pm an cdv ct),osl⟩)
  (c:PySem.W.codeIn K cdv qual=true) (k:PySem.W.keepIn K (.ref f)=true):Fun K x qual st f (PySem.W.fnOf x qual (a2p st) (uq st) (ig st) .none kV doc pm an cdv ct):=⟨⟨oc,od,kV,doc,pm,an,cdv,ct,osl,rfl,l,c⟩,k⟩
end
end L2
namespace L2
open PyProof.Rows
noncomputable def pkH(k:Int×List Int):Int:=reduceHash (Builtin.Tuple.tupleHashOf [hashInt k.1,reduceHash (Builtin.Tuple.tupleHashOf (k.2.map hashInt))])
abbrev NE:=(Int×List Int)×Addr×V
abbrev NX:=(Int×List Int)×Addr×Value
noncomputable def b0j(x:NX):DictEntry:=⟨pkH x.1,.ref x.2.1,x.2.2⟩
def NEX(e:NE)(x:NX):Prop:=e.1=x.1/\e.2.1=x.2.1/\RelV e.2.2 x.2.2
def dAt(a:Addr)(ent:List NE):Heap->Prop:=λh=>(a == sysModules)=false/\∃xs:List NX,Paired NEX ent xs/\∃o es ep,h.get? a=some o/\o.ExactDict/\o.data=.dict es ep/\es.toList=xs.map b0j
def NKey(H:Hp)(b:Addr)(k:Int×List Int):Prop:=∃c,H b=some (.tup [.int k.1,.ref c])/\H c=some (.tup (k.2.map V.int))
structure NDict (H:Hp) (a:Addr) (ent:List NE):Prop where
 has:H a=some (.ext (dAt a ent))
 keys:∀e∈ent,NKey H e.2.1 e.1
 nd:(ent.map (·.1)).Nodup
 len:ent.length<=sizeLine
def NDE(H:Hp)(a:Addr)(ent:List NE):Prop:=(NDict H a ent/\ent≠[])\/(H a=some (.dK [])/\ent=[])
noncomputable def axw(ent:List NE):List ((Int×List Int)×V):=ent.map λe=>(e.1,e.2.2)
section
variable{P:Program}{w:World}{H:Hp}{h:Heap}{a:Addr}
theorem NKey.keeps{H':Hp}{k:Int×List Int}(e:NKey H a k)(ht:∀b ys,H b=some (.tup ys)->H' b=some (.tup ys)):NKey H' a k:=let ⟨c,e1,e2⟩:=e; ⟨c,ht _ _ e1,ht _ _ e2⟩
theorem NDE.keeps{H':Hp}{ent:List NE}(e:NDE H a ent)(ea:H' a=H a)(ht:∀b ys,H b=some (.tup ys)->H' b=some (.tup ys)):NDE H' a ent:=by
 rcases e with⟨e,z⟩|⟨e,r⟩
 .exact .inl ⟨⟨by rw[ea];exact e.has,λx hx=>(e.keys x hx).keeps ht,e.nd,e.len⟩,z⟩
 .exact .inr ⟨by rw[ea];exact e,r⟩
theorem NDE.nd{ent:List NE}(e:NDE H a ent):(ent.map (·.1)).Nodup:=by
 rcases e with⟨e,_⟩|⟨_,rfl⟩
 .exact e.nd
 .exact dM
end
section
variable{X:Cx}{aA:List (Addr×Obj)}{σ:St}{H:Hp}{s:Shared}{a:Addr}{y v:V}{u r:Value}{o:Option V}{A:Around}{E:Value->Shared->Prop}
theorem Inv.big(I:Inv X aA σ H s):sysModules<s.heap.objs.size:=by
 have h:mainGlobals<s.heap.objs.size:=(I.mod.glob.keeps I.bk).lt;exact Nat.lt_trans (by decide) h
end
theorem aiz{P:Program}{w:World}{H:Hp}(h:Heap)(hb:sysModules<h.objs.size):ObjOk P w H (h.push {cls:=.type "dict",data:=.dict #[]}) h.objs.size (.dK []) :=
 ⟨bH _,bQ.mpr (eD (bV hb)),[],.nil,Heap.DictOf.new h⟩
noncomputable def asj:TE:=λ_ H Q=>∀p,H p=none->Q (.ref p) (upd H p (.dK []))
section
variable{X:Cx}{pos:Pos}
theorem aj0:PE X (.Dict [] [] pos) asj:=λaA s σ H Q I h =>
 wpAny_Dict_empty ⟨.ref s.heap.objs.size,_,I.laid (a:=s.heap.objs.size) (o:=.dK []) (t':=s.toks) (λ_ _ q=>aI _ q) (a9 _) (aiz s.heap I.big),rfl,h _ (I.hok.fresh (a9 _))⟩
end
section
variable{X:Cx}
theorem aj1:OpR X (compareOp .Is) (λx y H Q=>∃i j,x=.bl i/\y=.bl j/\Q (.bl (i == j)) H):=by
 intro aA s σ H x y v u Q I rx ry h
 obtain⟨i,j,rfl,rfl,q⟩:=h;cases rx
 cases ry
 exact is_bool (a6r I q rfl)
theorem xg:OpR X (compareOp .LtE) (λx y H Q=>∃i j,x=.str i/\y=.str j/\Q (.bl (!decide (j.cps.toList<i.cps.toList))) H):=by
 intro aA s σ H x y v u Q I rx ry h
 obtain⟨i,j,rfl,rfl,q⟩:=h;obtain⟨t,rfl⟩:=rx;obtain⟨t',rfl⟩:=ry;exact PySem.P.le_str (a6r I q rfl)
noncomputable def a6k{α:Type}(xs:List α)(lo hi:Option Int):List α:=(xs.drop (HT.sIx xs.length 0 lo)).take (HT.sIx xs.length xs.length hi-HT.sIx xs.length 0 lo)
def axx:V->Option Int->Option Int->Hp->VK->Prop:=λx lo hi H Q=>∃z,x=.str z/\z.length<=sizeLine/\Q (.str ⟨(a6k z.cps.toList lo hi).toArray⟩) H
theorem asl(lo hi:Option Int)(n:Nat):Builtin.Str.strSliceIndices lo hi 1 n=(List.range (HT.sIx n n hi-HT.sIx n 0 lo)).map λk=>HT.sIx n 0 lo+k:=by
 have e1:Builtin.Str.strSliceIndices lo hi 1 n=sliceRange ((HT.sIx n 0 lo:Nat):Int) ((HT.sIx n n hi:Nat):Int) 1:=by
  unfold Builtin.Str.strSliceIndices;dsimp only
  congr 1
  .cases lo with
   |none=>simp[HT.sIx]
   |some i=>simp only[HT.sIx,show(1:Int) > 0 by decide,ef];split<;>omega
  .cases hi with
   |none=>simp[HT.sIx]
   |some i=>simp only[HT.sIx,show(1:Int) > 0 by decide,ef];split<;>omega
 rw[e1];exact sliceRange_one _ _
theorem asm{α:Type}(xs:List α)(a:Nat):∀k,a+k<=xs.length->((List.range k).map λj=>a+j).filterMap (xs[·]?)=(xs.drop a).take k
 |0,_=>by simp
 |k+1,h=>by
  rw[List.range_succ,cJ,eT,asm xs a k (by omega)]
  have hk:a+k<xs.length:=by omega
  rw[List.take_succ]
  congr 1
  simp[List.getElem?_drop,hk]
theorem asn:SlR X axx:=by
 intro aA s σ H x v vl vu lo hi sl Q I rx hs pl pu h
 obtain⟨z,rfl,hz,q⟩:=h;obtain⟨t,rfl⟩:=rx;refine⟨"str",_,PyProof.Rows.slot_str_getitem.lookup,typeIs_str s z t,?_⟩;have hl:z.cps.toList.length=z.length:=by simp[Str.length]
 have fin:∀(l u:Option (Int×Tok)),vl=partValue l->vu=partValue u->l.map (·.1)=lo->u.map (·.1)=hi->wpAny (model X.prog X.w) X.A (getItem (.str z t) (.ref sl)) (EP X aA σ Q) X.xe s:=by
  intro l u e1 e2 e3 e4
  subst e1 e2;refine wpAny_getItem_str_slice (l:=l) (u:=u) (st:=none) hs rfl ?_;have hp:slicePicked z l u none=(List.range (HT.sIx z.length z.length hi-HT.sIx z.length 0 lo)).map λk=>HT.sIx z.length 0 lo+k:=by
   unfold slicePicked;rw[e3,e4];exact asl lo hi z.length
  have hb1:HT.sIx z.length z.length hi<=z.length:=HT.af0 _ _ (a9 _) _;have hb2:HT.sIx z.length 0 lo<=z.length:=HT.af0 _ _ (bH _) _;unfold sliceMade
  split
  .rename_i c;simp only[af,fh]at c;obtain⟨_,c⟩:=c;rw[hp,aJ,c8]at c;have e:(⟨(a6k z.cps.toList lo hi).toArray⟩:Str)=z:=by
    unfold a6k;rw[hl];have z1:HT.sIx z.length 0 lo=0:=by omega
    have z2:HT.sIx z.length z.length hi=z.length:=by omega
    rw[z1,z2,gp,Nat.sub_zero,cf (by omega)]
   rw[e]at q;exact⟨.str z,H,I,⟨_,rfl⟩,q⟩
  .have e:(⟨(a6k z.cps.toList lo hi).toArray⟩:Str)=⟨((slicePicked z l u none).filterMap (z.cps[·]?)).toArray⟩:=by
    rw[hp];unfold a6k;rw[hl]
    by_cases hc:HT.sIx z.length 0 lo<=HT.sIx z.length z.length hi
    .rw[<-asm z.cps.toList _ _ (by omega)]
     simp only[Array.getElem?_toList]
    .rw[show HT.sIx z.length z.length hi-HT.sIx z.length 0 lo=0 by omega]
     simp
   rw[e]at q;refine⟨?_,.str _,H,I.tok _,⟨_,rfl⟩,q⟩;rw[<-e];show(a6k z.cps.toList lo hi).toArray.size<=sizeLine;rw[aw];unfold a6k;rw[aR,b6,hl];omega
 cases pl with
 |none=>cases pu with
  |none=>exact fin none none rfl rfl rfl rfl
  |int j t'=>exact fin none (some (j,t')) rfl rfl rfl rfl
 |int i t'=>cases pu with
  |none=>exact fin (some (i,t')) none rfl rfl rfl rfl
  |int j t''=>exact fin (some (i,t')) (some (j,t'')) rfl rfl rfl rfl
theorem aab:CallR X (.builtin "isinstance") (λxs H Q=>∃x T t b,xs=[x,.ty T]/\TyOf X.K H x t/\PySem.W.kitOne X.K t (.type T)=some b/\Q (.bl b) H):=by
 intro aA s σ H xs us Q I r h
 obtain⟨x,T,t,b,rfl,ty,e,q⟩:=h;obtain⟨u,w',rfl,rx,rt⟩:=vals2 r;cases rt
 exact aev I rx ty e λtk=>⟨.bl b,H,I.tok tk,rfl,q⟩
theorem a8s(bs:List Bool):((List.range bs.length).all λi=>(bs[i]?).getD true)=bs.all id:=by
 have e:(List.range bs.length).map (λi=>(bs[i]?).getD true)=bs:=by
  apply List.ext_getElem (by simp)
  intro i h1 h2
  simp[h2]
 have f:((List.range bs.length).map λi=>(bs[i]?).getD true).all id=bs.all id:=by rw[e]
 rw[<-f,dU];rfl
theorem aac(hc:X.calm=true):CallR X (.builtin "all") (λxs H Q=>∃(p:Addr) (bs:List Bool),xs=[.ref p]/\SqL X.K H p (bs.map V.bl)/\Q (.bl (bs.all id)) H):=by
 intro aA s σ H xs us Q I r h
 obtain⟨p,bs,rfl,hq,q⟩:=h;obtain⟨u,rfl,rx⟩:=vals1 r;cases rx
 obtain⟨its,r',pl,hz⟩:=I.list hq;have hl:=r'.length;rw[aJ]at hl;have hlt:p<s.heap.objs.size:=by obtain⟨_,e,_⟩:=pl.isList;exact aT e
 refine call_all_walk (wpAny_pyIter_list pl.isList ?_);refine⟨s.heap.objs.size,[s.heap.objs.size,p],[s.heap.objs.size],its.toArray.size,_,_,λi=>(bs[i]?).getD true,rfl,Walks.list (A:=X.A.in1) (I.ok.hd hc) _ p (bV hlt) its.toArray,
  ⟨⟨_,bo _ rfl,rfl,rfl⟩,pl.isList.push _⟩,λi v s' Q' E' hP hQ=>?_,λh' tk hk=>?_⟩
 .have hP':its[i]? = some v:=by simpa using hP
  have hi:i<bs.length:=by
   have:=(ag.mp hP').1
   omega
  obtain⟨u,e,ru⟩:=r'.get (i:=i) (x:=.bl bs[i]) (by simp[hi])
  rw[hP']at e;cases e
  cases ru
  simp only[a8 hi,Option.getD_some]at hQ;exact bS hQ
 .have e:((List.range its.toArray.size).all λi=>(bs[i]?).getD true)=bs.all id:=by
   rw[aw,<-hl];exact a8s bs
  rw[e];exact⟨.bl _,H,I.kept λb x e=>hk b x (λhm=>by rw[aK.mp hm]at e;exact cH _ (aT e)) (aI _ e),rfl,q⟩
noncomputable def a0x(x:Str):List V:=x.cps.toList.map λc=>V.str ⟨#[c]⟩
theorem a6u(h:ItemsOf (SignAt x) acc x.cps.size):Vals (a0x x) acc.toList:=by
 obtain⟨hs,ha⟩:=h;have key:∀(cs:List Nat) (us:List Value),us.length=cs.length->(∀(j:Nat) (v:Value),us[j]? = some v->∃c u,cs[j]? = some c/\v=.str ⟨#[c]⟩ u)->Vals (cs.map λc=>V.str ⟨#[c]⟩) us:=by
  intro cs
  induction cs with
  |nil=>intro us hl _;cases us with|nil=>exact .nil|cons _ _=>simp at hl
  |cons c cs ih =>
   intro us hl hp
   cases us with
   |nil=>simp at hl
   |cons u us =>
    refine .cons ?_ (ih us (by simpa using hl) λj v e=>hp (j+1) v (by simpa using e))
    obtain⟨c',t,e1,e2⟩:=hp 0 u rfl;simp at e1;subst e1;exact⟨t,e2⟩
 refine key _ _ (by simp[hs]) λj v e=>?_
 obtain⟨c,u,e1,e2⟩:=ha j v (by simpa using e)
 exact⟨c,u,by simpa using e1,e2⟩
theorem aad(hc:X.calm=true):CallR X (.type "list") (λxs H Q=>∃z,xs=[.str z]/\z.length<=sizeLine/\∀l,H l=none->Q (.ref l) (upd H l (.lst (a0x z)))):=by
 intro aA s σ H xs us Q I r h
 obtain⟨z,rfl,hz,q⟩:=h;obtain⟨u,rfl,t,rfl⟩:=vals1 r;refine PySem.call_list_str (I.ok.hd hc) z t (λh' tk acc c kp e hi=>?_) (by simpa[Str.length] using hz)
 refine⟨.ref s.heap.objs.size,_,I.laid (t':=tk) kp (a9 _) (show ObjOk X.prog X.w _ h' _ (.lst (a0x z)) from ⟨by simpa[a0x,Str.length] using hz,acc.toList,c,a6u hi,by simpa using e⟩),rfl,q _ (I.hok.fresh (a9 _))⟩
theorem a8t(hc:X.calm=true):CallR X (.type "tuple") (λxs H Q=>∃z,xs=[.str z]/\z.length<=sizeLine/\∀l,H l=none->Q (.ref l) (upd H l (.tup (a0x z)))):=by
 intro aA s σ H xs us Q I r h
 obtain⟨z,rfl,hz,q⟩:=h;obtain⟨u,rfl,t,rfl⟩:=vals1 r;refine PySem.call_tuple_str (I.ok.hd hc) z t (λh' tk acc kp hi=>?_) (by simpa[Str.length] using hz)
 have I1:Inv X aA σ H {s with heap:=h',toks:=tk}:=I.kept kp
 have I2:Inv X aA σ (upd H h'.objs.size (.tup (a0x z))) {s with heap:=h'.push {cls:=.type "tuple",data:=.seq acc},toks:=tk} :=
  I1.laid (t':=tk) (λb o e=>aI _ e) (a9 _) (show ObjOk X.prog X.w _ _ _ (.tup (a0x z)) from ⟨by simpa[a0x,Str.length] using hz,acc.toList,a6u hi,by simpa using TupD.new h' acc⟩)
 exact⟨.ref h'.objs.size,_,I2,rfl,q _ (I1.hok.fresh (a9 _))⟩
end
noncomputable def Its(x:Str):It:=⟨λi _=>i<x.cps.size,λi H v H'=>H'=H/\∃c,x.cps.toList[i]? = some c/\v=.str ⟨#[c]⟩,λi _=>i=x.cps.size⟩
theorem abq{P:Program}{w:World}{K:Fg}{tg:Expr}(it:Addr)(x:Str)(t:Tok)(ty:String)
  (hty:["enumerate","zip","dict_itemiterator","dict_reverseitemiterator","odict_iterator","itertools.zip_longest","itertools.pairwise"].contains ty=false)
  (W:∀A':Around,A'.handled=none->Walks P w A' it [it] [it] x.cps.size (SignAt x) (λi h=>h.IsStrIter it ty x t i))
  (slf:∀(A:Around) (i:Nat) (s:Shared) (Q:Value->Shared->Prop) (E:Value->Shared->Prop),s.heap.IsStrIter it ty x t i->Q (.ref it) s->wpAny (model P w) A (pyIter (.ref it)) Q E s) :
  Turn P w K tg (Its x) [it] it (λi h=>h.IsStrIter it ty x t i) where
 mem:=by simp
 obj:=λi h st b hb=>by
  have e:b=it:=by simpa using hb
  subst e;obtain⟨o,e,c,d⟩:=st;exact⟨o,e,λv z=>by rw[d]at z;cases z⟩
 keep:=λi h h' st k=>by
  obtain⟨o,e,c,d⟩:=st;exact⟨o,k it (by simp) o e,c,d⟩
 item:=by
  intro X hP hw hK hc i aA s σ H E I hf st hg
  subst hP hw hK;obtain⟨f0,f1,f2,f3,f4,f5⟩:=hf it (by simp)
  refine(W X.A (I.ok.hd hc)).item i s _ _ hg st λv h' tk hv st' kk=>?_;obtain⟨c,u,hx,rfl⟩:=hv;have I1:Inv X aA σ H {s with heap:=h',toks:=tk}:=I.turned (λb o hb e=>kk b o (by simpa using hb) e) f0 f1 f3 f4 f5
  obtain⟨o,e,oc,d⟩:=id st';exact⟨_,rfl,ail (s:={s with heap:=h',toks:=tk}) e oc d hty ⟨.str ⟨#[c]⟩,H,I1,⟨_,rfl⟩,⟨rfl,c,by simpa using hx,rfl⟩,st',λb hb=>(hf b hb).1⟩⟩
 done:=by
  intro X hP hw hK hc i aA s σ H E I hf st hg
  subst hP hw hK;obtain⟨f0,f1,f2,f3,f4,f5⟩:=hf it (by simp)
  have hg':i=x.cps.size:=hg;subst hg';exact(W X.A (I.ok.hd hc)).done s _ _ st λh' tk eb=>⟨rfl,I.turned (λb o hb e=>eb b o (by simpa using hb) e) f0 f1 f3 f4 f5⟩
 self:=slf
section
variable{X:Cx}{tg:Expr}
noncomputable def b0k(tl:TE):TI:=λσ H R=>tl σ H λx H1=>∃z,x=.str z/\R (Its z) H1
theorem am3{l:Expr}{tl:TE}(hl:PE X l tl):PI X tg l (b0k tl):=by
 intro aA s σ H R I h
 refine thn (hl aA s σ H _ I h) ?_
 rintro v s1 ⟨x,H1,I1,r1,q1⟩
 obtain⟨z,e,q⟩:=q1;subst e;obtain⟨t,rfl⟩:=r1;have fp:∀b∈[s1.heap.objs.size],FpOk X aA H1 b:=λb hb=>by
  have e:b=s1.heap.objs.size:=by simpa using hb
  subst e;exact I1.fpOk (a9 _) (I1.hok.fresh (a9 _))
 cases ha:z.cps.all (· < 128)
 .exact wpAny_pyIter_wide ha ⟨s1.heap.objs.size,[s1.heap.objs.size],_,_,H1,rfl,I1.kept (t':=s1.toks) λb o e=>aI _ e,
   abq _ z t "str_iterator" (by decide) (λA' hA=>Walks.strWide hA _ z t) (λ_ _ _ _ _ st h=>wpAny_pyIter_striter_wide st h),⟨_,bo _ rfl,rfl,rfl⟩,fp,q⟩
 .exact wpAny_pyIter_ascii ha ⟨s1.heap.objs.size,[s1.heap.objs.size],_,_,H1,rfl,I1.kept (t':=s1.toks) λb o e=>aI _ e,
   abq _ z t "str_ascii_iterator" (by decide) (λA' hA=>Walks.strAscii hA _ z t) (λ_ _ _ _ _ st h=>wpAny_pyIter_striter_ascii st h),⟨_,bo _ rfl,rfl,rfl⟩,fp,q⟩
end
noncomputable def am4(tt:Option Str)(a:Addr)(cl:List (Str×Addr)):List (Str×Addr):=match tt with
 |none=>cl
 |some t=>(t,a)::cl
noncomputable def azk(tt:Option Str)(h:Heap):Heap:=match tt with
 |none=>h
 |some _=>h.push {cls:=.type "cell",data:=.cell none}
noncomputable def cxG(X:Cx)(N:List Str)(aB:Scope)(cl:List (Str×Addr))(tt:Option Str)(C:Addr)(fp:List Addr)(s:Shared)(H:Hp):Cx where
 prog:=X.prog
 w:=X.w
 K:=X.K
 mg:=X.mg
 base:=X.base
 A:=X.A
 N:=N
 s₀:=s
 H₀:=H
 env:=compEnvC aB (am4 tt (C+1) cl) C X.env
 outer:=X.stack
 stack:=X.stack
 ex:=fp
 fn:=λx=>tt == some x
 calm:=X.calm
 pn:=[]
 xe:=λ_ _=>False
abbrev cxC(X:Cx)(N:List Str)(aB:Scope)(cl:List (Str×Addr))(C:Addr)(fp:List Addr)(s:Shared)(H:Hp):Cx:=cxG X N aB cl none C fp s H
structure CSg (X:Cx) (aB:Scope) (cl:List (Str×Addr)) (tt:Option Str) (ts fr:List Str) (ix:List Nat):Prop where
 clos:closureFor aB X.env=pure cl
 kind:aB.kind=.function
 own:∀a,cellsFrom a aB.names cl=am4 tt a cl
 push:∀h,pushCells h aB.names=azk tt h
 names:∀y∈aB.names,y.2=.local->aB.names.lookup y.1=some .local
 sub:∀y c,cl.lookup y=some c->X.env.cells.lookup y=some c
 has:∀y,((relabel aB X.env).names.lookup y=some .cell\/(relabel aB X.env).names.lookup y=some .free)->tt=some y\/∃c,cl.lookup y=some c
 len:ix.length=fr.length
 vis:∀(j:Nat) (y:Str),fr[j]? = some y->tt≠some y/\∃i:Nat,ix[j]? = some i/\X.N[i]? = some y/\(X.env.kindOf y=some .cell\/X.env.kindOf y=some .free)/\((relabel aB X.env).names.lookup y=some .cell\/(relabel aB X.env).names.lookup y=some .free)
abbrev CSc(X:Cx)(aB:Scope)(cl:List (Str×Addr))(ts fr:List Str)(ix:List Nat):Prop:=CSg X aB cl none ts fr ix
theorem a7j:∀{names:List (Str×NameKind)} {a:Nat} {cl:List (Str×Addr)},(∀y∈names,y.2≠.cell)->cellsFrom a names cl=cl
 |[],_,_,_=>rfl
 |(x,k)::r,a,cl,h=>by
  unfold cellsFrom;rw[aO (by have:=h _ aY;simpa using this)]
  exact a7j λy hy=>h y (aQ _ hy)
theorem aae:∀{names:List (Str×NameKind)} {h:Heap},(∀y∈names,y.2≠.cell)->pushCells h names=h
 |[],_,_=>rfl
 |(x,k)::r,a,h=>by
  unfold pushCells;rw[aO (by have:=h _ aY;simpa using this)]
  exact aae λy hy=>h y (aQ _ hy)
theorem look{tt:Option Str}{cl:List (Str×Addr)}(e:(am4 tt a cl).lookup y=some c):(tt=some y/\c=a)\/(tt≠some y/\cl.lookup y=some c):=by
 cases tt with
 |none=>exact .inr ⟨nofun,e⟩
 |some t =>
  have e:((t,a)::cl).lookup y=some c:=e;rw[fV]at e
  cases hb:y == t with
  |true=>rw[hb]at e;cases e;exact .inl ⟨ah some (fh.mp hb).symm,rfl⟩
  |false=>rw[hb]at e;exact .inr ⟨λz=>by cases z;simp at hb,e⟩
theorem af8{tt:Option Str}{cl:List (Str×Addr)}(ne:tt≠some y)(e:cl.lookup y=some c):(am4 tt a cl).lookup y=some c:=by
 cases tt with
 |none=>exact e
 |some t =>
  show((t,a)::cl).lookup y=some c;rw[fV];have hb:(y == t)=false:=by rw[bQ];exact λz=>ne (ah some z.symm)
  rw[hb];exact e
theorem aso{t:Str}{a:Addr}{cl:List (Str×Addr)}:(am4 (some t) a cl).lookup t=some a:=by
 show((t,a)::cl).lookup t=_;rw[fV];simp
theorem no1(h:C+1<n)(h':n<=C):False:=by omega
theorem no2(h:b<n)(h':n<=C):C+1≠b:=by omega
theorem no3(h:C+1=n)(h':n<=C):False:=by omega
theorem af9{M:Model}{A:Around}{E:Value->Shared->Prop}{s:Shared}{aB:Scope}{globals:Addr}{cl:List (Str×Addr)}{tt:Option Str}{qual:Str}{func:Option Addr}{code:Value}{outer:Env}{builtins:Addr}{Q:Env->Shared->Prop}
  (own:∀a,cellsFrom a aB.names cl=am4 tt a cl) (push:∀h,pushCells h aB.names=azk tt h) (hk:aB.kind=.function)
  (hQ:∀h':Heap,h'.Ns s.heap.objs.size (λ_=>none)->(∀t,tt=some t->h'.IsCell (s.heap.objs.size+1) none)->(∀b o,s.heap.get? b=some o->h'.get? b=some o)->Q (newEnv aB s.heap.objs.size globals (am4 tt (s.heap.objs.size+1) cl) qual func code (some outer) builtins) {s with heap:=h' }) :
  wpAny M A (newFunctionEnv aB globals cl [] qual func code (some outer) builtins) Q E s:=by
 simp only[newFunctionEnv,Option.isSome_some,ef];refine ax (wpAny_alloc ?_);refine ax (wpAny_layCells _ (λname kind cells=>by cases hkc:kind == NameKind.cell<;>simp[hkc]) _ _ _ _ ?_)
 rw[own,push];simp only[List.forIn_nil];refine ax (aS (aS ?_));have sz:({s with heap:=s.heap.push {cls:=.type "dict",data:=.dict #[]} }:Shared).heap.objs.size=s.heap.objs.size+1:=eQ ..
 rw[sz]
 cases tt with
 |none=>exact hQ _ (Heap.Ns.new s.heap (.type "dict")) (λ_ z=>nomatch z) λb o e=>aI _ e
 |some t =>
  refine hQ _ ((Heap.Ns.new s.heap (.type "dict")).keeps λb o e=>aI _ e) (λ_ _=>⟨{cls:=.type "cell",data:=.cell none},?_,rfl⟩) λb o e=>aI _ (aI _ e);rw[<-sz];exact bo _ rfl
def Ext(a b:St):Prop:=b.length=a.length/\∀(i:Nat) v,a[i]? = some (some v)->b[i]? = some (some v)
noncomputable def xj(nt:Nat)(ix:List Nat)(σ:St):St:=List.replicate nt none++ix.map λi=>(σ[i]?).join
def ao9(J:It)(s0:St)(g:TG)(te:TE)(Q:VK)(H1:Hp):Prop:=∃W:Nat->Nat->List V->Hp->Prop,(∃m,W 0 m [] H1)/\∀i m ys H,W i m ys H->
 (J.stop i H/\∀p,H p=none->Q (.ref p) (upd H p (.lst ys))) \/
 (J.go i H/\ys.length<sizeLine/\∀x H',J.yld i H x H'->g x s0 H' λσ2 H2=>Ext s0 σ2/\te σ2 H2 λy H3=>∃m',m'<m/\W (i+1) m' (ys++[y]) H3)
noncomputable def afa(wi:TI)(s0:St->St)(g:TG)(te:TE):TE:=λσ H Q=>wi σ H λJ H1=>ao9 J (s0 σ) g te Q H1
def aaf(J:It)(s0:St)(g:TG)(tc:TT)(te:TE)(Q:VK)(H1:Hp):Prop:=∃W:Nat->Nat->List V->Hp->Prop,(∃m,W 0 m [] H1)/\∀i m ys H,W i m ys H->
 (J.stop i H/\∀p,H p=none->Q (.ref p) (upd H p (.lst ys))) \/
 (J.go i H/\ys.length<sizeLine/\∀x H',J.yld i H x H'->g x s0 H' λσ2 H2=>Ext s0 σ2/\tc σ2 H2 λok H2'=>if ok=true then te σ2 H2' (λy H3=>∃m',m'<m/\W (i+1) m' (ys++[y]) H3) else ∃m',m'<m/\W (i+1) m' ys H2')
noncomputable def a4e(wi:TI)(s0:St->St)(g:TG)(tc:TT)(te:TE):TE:=λσ H Q=>wi σ H λJ H1=>aaf J (s0 σ) g tc te Q H1
theorem a5n(aD target aF cnd:Expr)(aB:Scope)(pos:Pos)(it acc:Value)(env:Env) :
  compTurn (.ListComp aD [⟨target,aF,[cnd],0⟩] aB pos) 0 it acc env=(standAt aF.pos>>=λ_=>pyNext it>>=λr=>match r with
   |none=>pure (.done .next)
   |some v=>letOwnedTupleGo target it v>>=λ_=>assign target env v>>=λ_=>isTrue cnd env (eval cnd env)>>=λok =>
    (if ok=true then (eval aD env>>=λx=>call (.builtin "list.append") [acc,x]>>=λ_=>pure ()) else pure ())>>=λ_ =>
     again (.compLoop (.ListComp aD [⟨target,aF,[cnd],0⟩] aB pos) 0 it acc env)):=by
 first
  |rfl
  |(unfold compTurn;simp only[eH];rfl)
  | (show(standAt aF.pos>>=λ_=>pyNext it>>=λr=>_)=_
     congr 1;funext _;congr 1;funext r
     cases r with
     |none=>rfl
     |some v =>
      show(letOwnedTupleGo target it v>>=λ_=>assign target env v>>=λ_=>_)=(letOwnedTupleGo target it v>>=λ_=>assign target env v>>=λ_=>_)
      congr 1;funext _;congr 1;funext _
      simp
      congr 1;funext ok
      cases ok with
      |false=>rw[aO aU,aO aU,pure_bind]
      |true =>
       rw[av rfl,av rfl,bind_assoc]
       congr 1;funext x
       rw[map_eq_pure_bind,bind_assoc]
       congr 1)
noncomputable def runC(cnd:Option Expr)(env:Env):Sem Bool:=match cnd with
 |none=>pure true
 |some c=>isTrue c env (eval c env)
def PTO(X:Cx)(cnd:Option Expr)(t:TT):Prop :=
 ∀(aA:List (Addr×Obj)) (s:Shared) (σ:St) (H:Hp) (Q:Bool->Hp->Prop),Inv X aA σ H s->t σ H Q->wpAny (model X.prog X.w) X.A (runC cnd X.env) (TP X aA σ Q) X.xe s
theorem a6l(aD target aF:Expr)(cnd:Option Expr)(aB:Scope)(pos:Pos)(it acc:Value)(env:Env) :
  compTurn (.ListComp aD [⟨target,aF,cnd.toList,0⟩] aB pos) 0 it acc env=(standAt aF.pos>>=λ_=>pyNext it>>=λr=>match r with
   |none=>pure (.done .next)
   |some v=>letOwnedTupleGo target it v>>=λ_=>assign target env v>>=λ_=>runC cnd env>>=λok =>
    (if ok=true then (eval aD env>>=λx=>call (.builtin "list.append") [acc,x]>>=λ_=>pure ()) else pure ())>>=λ_ =>
     again (.compLoop (.ListComp aD [⟨target,aF,cnd.toList,0⟩] aB pos) 0 it acc env)):=by
 cases cnd with
 |some c=>exact a5n ..
 |none =>
  rw[show(none:Option Expr).toList=[] from rfl,compTurn_list1]
  congr 1
theorem afb{cnd:Option Expr}{E:Value->Shared->Prop}(no:∀v s,E v s->False)(J:Nat->Shared->Prop)
  (step:∀m z,J m z->wpAny (model prog w) A (pyNext it) (λgot z1=>match got with
   |none=>R (.ok .next) z1
   |some v=>wpAny (model prog w) A (letOwnedTupleGo target it v) (λ_ z2=>wpAny (model prog w) A (assign target env v) (λ_ z3=>wpAny (model prog w) A (runC cnd env) (λok z3'=>if ok=true then wpAny (model prog w) A (eval aD env) (λx z4 =>
     wpAny (model prog w) A (call (.builtin "list.append") [acc,x]) (λ_ z5=>∃m',m'<m/\J m' z5) E z4)
     E z3' else ∃m',m'<m/\J m' z3') E z3) E z2) E z1) E z)
  (m:Nat) (j0:J m s):codeAny (model prog w) A (.compLoop (.ListComp aD [⟨target,aF,cnd.toList,0⟩] aB pos) 0 it acc env) R s:=by
 refine codeAny_loop rfl J (λm z hj=>(wpAny_noted ?_:wpAny _ _ ((compTurn (.ListComp aD [⟨target,aF,cnd.toList,0⟩] aB pos) 0 it acc env).onRaise _) _ _ z)) m j0;rw[a6l];refine ax (dY (ax (bP (step m z hj) (λgot z1 h1=>?_) λ_ _ e=>(no _ _ e).elim)))
 match got,h1 with
 |none,h1=>exact aS h1
 |some v,h1 =>
  refine ax (bP h1 (λ_ z2 h2=>ax (bP h2 (λ_ z3 h3=>ax (bP h3 (λok z3' h3'=>?_) λ_ _ e=>(no _ _ e).elim)) λ_ _ e=>(no _ _ e).elim)) λ_ _ e=>(no _ _ e).elim)
  match ok,h3' with
  |true,h3' =>
   rw[av rfl]at h3';refine ax (ax (bP h3' (λx z4 h4=>?_) λ_ _ e=>(no _ _ e).elim));exact ax (bP h4 (λ_ z5 h5=>aS (aS ⟨rfl,h5⟩)) λ_ _ e=>(no _ _ e).elim)
  |false,h3' =>
   rw[aO aU]at h3';exact ax (aS (aS ⟨rfl,h3'⟩))
section
variable{X:Cx}
theorem a8u{aA:List (Addr×Obj)}{σ:St}{H:Hp}{s:Shared}{aB:Scope}{cl:List (Str×Addr)}{tt:Option Str}{ts fr:List Str}{ix:List Nat}{C:Addr}{fp:List Addr}(S:CSg X aB cl tt ts fr ix)(I:Inv X aA σ H s)
  (hf:∀b∈fp,FpOk X aA H b) (hb:∀b∈fp,b<s.heap.objs.size) (hC:s.heap.objs.size<=C):(cxG X (ts++fr) aB cl tt C fp s H).Ok where
 mod:=I.ok.mod
 kind:=S.kind
 glob:=I.ok.glob
 blt:=I.ok.blt
 above:=hC
 inj:=λx y c h1 h2=>by
  have small:∀z c,cl.lookup z=some c->c<s.heap.objs.size:=λz c e=>let ⟨_,q⟩:=I.cell z c (S.sub z c e);q.lt
  rcases look h1 with⟨e1,rfl⟩|⟨_,e1⟩<;>rcases look h2 with⟨e2,e3⟩|⟨_,e2⟩
  .exact bJ (e1.symm.trans e2)
  .exact(no1 (small y _ e2) hC).elim
  .rw[e3]at e1;exact(no1 (small x _ e1) hC).elim
  .exact I.ok.inj x y c (S.sub x c e1) (S.sub y c e2)
 has:=λy z=>by
  by_cases h:tt=some y
  .subst h;exact⟨_,aso⟩
  .exact(S.has y z).elim (λz=>absurd z h) λ⟨c,e⟩=>⟨c,af8 h e⟩
 cab:=λx c h e=>by
  rcases look e with⟨_,rfl⟩|⟨ne,_⟩
  .show s.heap.objs.size<=C+1;omega
  .exact absurd (fh.mp h) ne
 hd:=I.ok.hd
 frames:=I.ok.frames
 stk:=.inl rfl
 exf:=λb hb'=>⟨bV (aX (hb b hb') hC),λx c e=>by
  rcases look e with⟨_,rfl⟩|⟨_,e⟩
  .exact no2 (hb b hb') hC
  .exact(hf b hb').2.2.2.2.1 x c (S.sub x c e)⟩
 bs:=λb o e=>I.bs b o e
 bsz:=bE I.ok.bsz I.sz
 noex:=λb o e hb'=>by
  rcases(hf b hb').2.2.2.1 with z|z
  .exact I.ok.noex b o e z
  .exact absurd (aX (aT e) (bE I.ok.bsz z)) (cH _)
 exfs:=λb hb' z=>by
  rcases aZ.mp (I.stkSub b z) with e|e
  .exact(hf b hb').2.1 e
  .exact(hf b hb').2.2.1 e
 funs:=I.stack
 frf:=λb hb'=>I.stkFree b hb'
theorem adh:(xj nt ix σ).length=nt+ix.length:=by
 unfold xj;rw[ae,dQ,aJ]
theorem afc{s s4:Shared}{ts:List Str}(S:CSg X aB cl tt ts fr ix)(I:Inv X aA σ H s)
  (hf:∀b∈fp,FpOk X aA H b) (hb:∀b∈fp,b<s.heap.objs.size) (hC:s.heap.objs.size<=C)
  (k:∀b o,s.heap.get? b=some o->s4.heap.get? b=some o) (hn:s4.heap.Ns C m) (hcl:∀t,tt=some t->s4.heap.IsCell (C+1) none) (ho:s4.os=s.os) (hg:s4.gens=s.gens) :
  Inv (cxG X (ts++fr) aB cl tt C fp s H) [] (xj ts.length ix σ) H s4 where
 ok:=a8u S I hf hb hC
 os:=ho
 bare:=by rw[hg];exact I.bare
 base:=Un.kept k
 loc:=by
  refine⟨m,hn,λi x v e1 e2 e3=>?_⟩;have e1:(ts++fr)[i]? = some x:=e1
  by_cases hi:i<ts.length
  .unfold xj at e2;rw[aV (by simpa using hi),dF,av hi]at e2
   cases e2
  .rw[aN (by omega)]at e1
   unfold xj at e2;rw[aN (by simpa using hi),dQ,bT]at e2
   obtain⟨nt,j,h1,h2,h3,h4⟩:=S.vis _ x e1;rw[h1]at e2;have e2':(σ[j]?).join=some v:=bJ e2;have e5:σ[j]? = some (some v):=by
    cases q:σ[j]? with
    |none=>rw[q]at e2';cases e2'
    |some o=>rw[q]at e2';simp at e2';rw[e2']
   obtain⟨m0,_,hl⟩:=I.loc;have vis:Vis X.env.scope x:=h3.elim (λz=>.inr (.inl z)) λz=>.inr (.inr z);obtain⟨u,ru,l⟩:=hl j x v h2 e5 vis;refine⟨u,ru,?_⟩
   rcases l with⟨z,_⟩|⟨_,c,hc,hcell⟩
   .rcases h3 with h3|h3<;>rw[h3]at z<;>cases z
   .rcases S.has x h4 with z|⟨c',hc'⟩
    .exact absurd z nt
    .have e6:c'=c:=bJ ((S.sub x c' hc').symm.trans hc);subst e6;obtain⟨o,ho,hd⟩:=hcell;exact .inr ⟨h4,c',af8 nt hc',o,k _ _ ho,hd⟩
 cell:=λx c e=>by
  rcases look e with⟨z,rfl⟩|⟨_,e⟩
  .exact⟨_,hcl _ z⟩
  .obtain⟨v,o,ho,hd⟩:=I.cell x c (S.sub x c e);exact⟨v,o,k _ _ ho,hd⟩
 free:=I.hok.fresh hC
 freeC:=λx c e=>by
  rcases look e with⟨_,rfl⟩|⟨_,e⟩
  .exact I.hok.fresh (by omega)
  .exact I.freeC x c (S.sub x c e)
 pin:=λp hp=>absurd (show p∈([]:List (Addr×Obj)) from hp) (by simp)
 hok:=I.hok.kept k
 len:=by
  rw[adh];show _=(ts++fr).length;rw[ae,S.len]
theorem Inv.unpinned'(I:Inv X aA σ H s):Inv X [] σ H s:=I.pins_of λ_ hp=>nomatch hp
theorem a6v{Y:Cx}(I:Inv X aA σ H s)
  (hf:∀b∈fp,FpOk X aA H b) (hC:s.heap.objs.size<=C) (hacc:s.heap.objs.size<=acc)
  (q:Y.prog=X.prog/\Y.w=X.w/\Y.fs=frs X.stack/\Y.ex=fp/\Y.env.locals=C/\Y.s₀=s/\Y.H₀=H) (J:Inv Y [] σ' H' s') (hn:H' acc=none) (hob:ObjOk X.prog X.w (upd H' acc ho) h' acc ho) (sb:Heap.SameBut C s'.heap h') :
  Inv X aA σ (upd H' acc ho) {s' with heap:=h' }:=by
 have k:∀b o,b≠C->s'.heap.get? b=some o->h'.get? b=some o:=λb o hb e=>sb.extBut b o hb e;have old:∀b o,s.heap.get? b=some o->b≠C/\b≠acc:=λb o e=>⟨bV (aX (aT e) hC),bV (aX (aT e) hacc)⟩;obtain⟨q1,q2,q3,q4,q5,q6,q7⟩:=q;have u0:=J.base;rw[q3,q4,q6,q7]at u0;have fC:=J.free;rw[q5]at fC;have jh:=J.hok;rw[q1,q2]at jh;have u:Un (frs X.stack) fp H (upd H' acc ho) s.heap h':=by
  refine⟨λb o e n' hb hx=>k b o (old b o e).1 (u0.keep b o e n' hb hx),λb o e n' hb hx=>?_,λb o e n' hx=>?_,λb o e hx=>?_,λb xs e=>?_,λb o v e=>?_,λb ps e=>?_⟩
  .obtain⟨sl,e1⟩:=u0.slot b o e n' hb hx;exact⟨sl,k b _ (old b o e).1 e1⟩
  .rw[jk (old b o e).2];exact u0.free b o e n' hx
  .obtain⟨o',e1⟩:=u0.there b o e hx;exact⟨o',k b _ (old b o e).1 e1⟩
  .rw[jk (iw (u0.tups b xs e) hn)];exact u0.tups b xs e
  .rw[jk (iw (u0.frzs b o v e) hn)];exact u0.frzs b o v e
  .obtain⟨more,e1⟩:=u0.tbls b ps e;exact⟨more,by rw[jk (iw e1 hn)];exact e1⟩
 have hok:HOk X.prog X.w (upd H' acc ho) h':=λb o e=>by
  by_cases hb:b=acc
  .subst hb;rw[qe]at e;cases e
   exact hob
  .rw[jk hb]at e;refine(jh b o e).stay (λc v hc q=>k c v ?_ q) (λc q=>by rw[jk (iw q hn)];exact q) λc xs q=>by rw[jk (iw q hn)];exact q
   rcases hc with z|z
   .rw[z];exact iw e fC
   .exact iw z fC
 have J':=I.call (g':=s'.gens) (t':=s'.toks) (d':=s'.drawn) (ch:=fp) u hok J.bare λb hb=>⟨(hf b hb).2.2.2.1,(hf b hb).2.1,(hf b hb).2.2.2.2.1,(hf b hb).2.2.2.2.2⟩;have eo:=J.os;rw[q6]at eo;obtain⟨hp,g,d,t,o⟩:=s';have eo':o=s.os:=eo;subst eo';exact J'
theorem asp{Y:Cx}(ok:Y.Ok)(hp:Y.pn=[])(hn:H' b=none)(hb:b∈Y.ex):FpOk Y [] H' b :=
 ⟨hn,(ok.exf b hb).1,ok.exfs b hb,.inl hb,(ok.exf b hb).2,λp h=>by rw[hp]at h;exact absurd h (by simp)⟩
theorem am5{Y:Cx}(ok:Y.Ok)(hp:Y.pn=[])(hn:H' b=none)(hb:b=Y.s₀.heap.objs.size)(hl:b≠Y.env.locals)(hc:∀x c,Y.env.cells.lookup x=some c->c≠b):FpOk Y [] H' b :=
 ⟨hn,hl,λz=>by
  obtain⟨_,o,ho,_⟩:=ok.funs.mem z;exact cH _ (aX (aT ho) (Nat.le_of_eq hb.symm)),.inr (Nat.le_of_eq hb.symm),hc,λp h=>by rw[hp]at h;exact absurd h (by simp)⟩
theorem afd(I:Inv X aA σ H s)(e:X.env.cells.lookup x=some c):c≠s.heap.objs.size:=λz=>by
 obtain⟨v,o,ho,_⟩:=I.cell x c e;rw[z]at ho;exact cH _ (aT ho)
def a5o(X:Cx)(aA:List (Addr×Obj))(σ:St)(use:Option (Value->Sem Unit))(Q:VK)(Qf:Value->Shared->Prop):Prop :=
 ∀(acc C:Addr) (s6:Shared) (H6:Hp) (m6:Str->Option Value),s6.heap.Ns C m6->FpOk X aA H6 C->(∀h',Heap.SameBut C s6.heap h'->Inv X aA σ H6 {s6 with heap:=h' })->Q (.ref acc) H6->
  compPost (model X.prog X.w) X.A X.xe use Qf (.ref acc) C (.ok .next) s6
theorem a7k:a5o X aA σ none Q (EP X aA σ Q):=λacc C s6 H6 m6 hn _ k q=>⟨m6,hn,λh' sb=>⟨.ref acc,H6,k h' sb,rfl,q⟩⟩
theorem abr{D:Ends}(hN:X.N.Nodup)(hi:X.N[i]? = some x)(hx:Loc X.env.scope x)(hf:X.fn x=true\/X.env.scope.names.lookup x=some .local) :
  a5o X aA σ (some (assign (.Name x pos') X.env)) (λv H1=>a6j i v σ H1 D.nx) (λ_ s'=>SP X aA D .next s'):=by
 intro acc C s6 H6 m6 hn fp k q
 obtain⟨f1,f2,f3,f4,f5,f6⟩:=fp;have I6:Inv X aA σ H6 s6:=k s6.heap (Heap.SameBut.refl _ _);refine wpAny_assign_Name (a8b (v:=.ref acc) I6 hN hi hx rfl (λs' I' ⟨a,sb,ha⟩=>⟨m6,hn.sameBut sb ?_,λh' sb'=>⟨_,H6,I'.turned (t':=s'.toks) (it:=C) (λb o hb e=>sb'.extBut b o hb e) f1 f2 f4 f5 f6,q⟩⟩) hf)
 rcases ha with ha|ha
 .rw[ha];exact f2
 .exact λz=>f5 x a ha z.symm
theorem afe{Y:Cx}{cnd:Option Expr}{N it:Addr}{fp:List Addr}{tn:Nat->Heap->Prop}{J:It}{σ0:St}{H2:Hp}{s4:Shared}{W:Nat->Nat->List V->Hp->Prop}{Q:VK}(hc:Y.calm=true)(no:∀v s,Y.xe v s->False)(hp0:Y.pn=[])(T:Turn Y.prog Y.w Y.K tg J fp it tn)
  (stat:∀{H':Hp},(∀b∈fp,H' b=none)->∀b∈fp,FpOk Y [] H' b) (statA:∀{H':Hp},H' N=none->FpOk Y [] H' N) (accF:N∉fp) (hg:PG Y tg g) (he:PE Y aD te) (ht:PTO Y cnd tc)
  (turn:∀i m ys H,W i m ys H->(J.stop i H/\∀p,H p=none->Q (.ref p) (upd H p (.lst ys)))\/(J.go i H/\ys.length<sizeLine/\∀x H',J.yld i H x H'->g x σ0 H' λσ2 H2=>Ext σ0 σ2/\tc σ2 H2 λok H2'=>if ok=true then te σ2 H2' (λy H3=>∃m',m'<m/\W (i+1) m' (ys++[y]) H3) else ∃m',m'<m/\W (i+1) m' ys H2'))
  (w0:W 0 m0 [] H2) (K0:Inv Y [] σ0 H2 s4) (st4:tn 0 s4.heap) (f0:∀b∈fp,H2 b=none) (fa:H2 N=none) (hacc:s4.heap.get? N=some {cls:=.type "list",data:=.seq ([]:List Value).toArray 0})
  (fin:∀s6 H6 ys its k,Inv Y [(N,{cls:=.type "list",data:=.seq its.toArray k})] σ0 H6 s6->H6 N=none->Vals ys its->ys.length<=sizeLine->(∀p,H6 p=none->Q (.ref p) (upd H6 p (.lst ys)))->R (.ok .next) s6) :
  codeAny (model Y.prog Y.w) Y.A (.compLoop (.ListComp aD [⟨tg,aF,cnd.toList,0⟩] aB pos) 0 (.ref it) (.ref N) Y.env) R s4:=by
 refine afb no (λn s'=>∃i σ' H' ys its k,Inv Y [] σ' H' s'/\Ext σ0 σ'/\tn i s'.heap/\(∀b∈fp,H' b=none)/\H' N=none /\
  s'.heap.get? N=some {cls:=.type "list",data:=.seq its.toArray k}/\Vals ys its/\ys.length<=sizeLine/\W i n ys H') ?_ m0
  ⟨0,_,H2,[],[],0,K0,⟨rfl,λ_ _ z=>z⟩,st4,f0,fa,hacc,.nil,bH _,w0⟩
 rintro n s5 ⟨i,σ5,H5,ys,its,k5,I5,x5,st5,fr5,fa5,ac5,rv5,hz5,w5⟩
 have I5':Inv Y [] σ0 H5 s5:=I5.weak x5.1.symm x5.2;obtain⟨ob,hob⟩:∃ob:Obj,ob={cls:=.type "list",data:=.seq its.toArray k5}:=⟨_,rfl⟩;rw[<-hob]at ac5;have IP:Inv Y [(N,ob)] σ0 H5 s5:=I5'.pins_of λp hp=>by
  rw[aK.mp hp];obtain⟨a0,a1,a2,_⟩:=statA fa5;exact⟨ac5,a0,a1,a2,λv z=>by rw[hob]at z;cases z⟩
 have FB:∀b∈fp,FpOk Y [(N,ob)] H5 b:=λb hb=>by
  obtain⟨b0,b1,b2,b3,b4,b5⟩:=stat fr5 b hb;refine⟨b0,b1,b2,b3,b4,λp hp=>?_⟩;rw[hp0]at hp;rw[aK.mp hp];exact λz=>accF (by have z':N=b:=z;rw[z'];exact hb)
 rcases turn i n ys H5 w5 with⟨stop,qn⟩|⟨go,hlt,step⟩
 .refine thn (T.done Y rfl rfl rfl hc i [(N,ob)] s5 _ H5 _ IP FB st5 stop) ?_
  rintro r s6 ⟨hr,I6⟩
  subst hr;rw[hob]at I6;exact fin s6 H5 ys its k5 I6 fa5 rv5 hz5 qn
 .refine thn (T.item Y rfl rfl rfl hc i [(N,ob)] s5 _ H5 _ IP FB st5 go) ?_
  rintro r s6 ⟨u,hr,h6⟩
  subst hr;refine thn h6 ?_
  rintro _ s7 ⟨x,H7,I7,r7,y7,st7,fr7⟩
  obtain⟨ac7,fa7,_⟩:=I7.pin (N,ob) (by simp)
  have I7':Inv Y (a0f (N::fp) s7.heap) σ0 H7 s7:=by
   show Inv Y ([]++a0f (N::fp) s7.heap) _ _ _;refine Inv.pinned I7.unpinned' (λb hb=>?_) λb hb=>?_
   .rcases aZ.mp hb with e|e
    .subst e;exact statA fa7
    .exact stat fr7 b e
   .rcases aZ.mp hb with e|e
    .subst e;exact⟨_,ac7,λv z=>by rw[hob]at z;cases z⟩
    .exact T.obj _ _ st7 b e
  have keep:∀{σ':St} {H9:Hp} {s9:Shared} {ps:List (Addr×Obj)},Inv Y (a0f (N::fp) s7.heap) σ' H9 s9->(s9.heap.get? N=some ob/\H9 N=none)/\∀b∈fp,(∀o,s7.heap.get? b=some o->s9.heap.get? b=some o)/\H9 b=none:=λI9=>by
   refine⟨?_,λb hb=>?_⟩
   .obtain⟨z1,z2,_⟩:=I9.pin (N,ob) (br _ (yz aY ac7));exact⟨z1,z2⟩
   .obtain⟨o,e,_⟩:=T.obj _ _ st7 b hb;obtain⟨z1,z2,_⟩:=I9.pin (b,o) (br _ (yz (aQ _ hb) e));exact⟨λo' e'=>by rw[e]at e';cases e';exact z1,z2⟩
  refine thn (hg _ s7 _ H7 x u _ I7' r7 (step x H7 y7)) ?_
  rintro _ s8 ⟨σ8,H8,I8,x8,q8⟩
  refine thn (ht _ s8 _ H8 _ I8 q8) ?_
  rintro ok s8' ⟨H8',I8',q8'⟩
  cases ok with
  |false =>
   rw[aO aU]at q8' ⊢;obtain⟨m',hm',w9⟩:=q8';obtain⟨⟨ac9,fa9⟩,k9⟩:=keep (ps:=[]) I8';exact⟨m',hm',i+1,σ8,H8',ys,its,k5,I8'.unpinned',x8,T.keep _ _ _ st7 λb hb o e=>(k9 b hb).1 o e,λb hb=>(k9 b hb).2,fa9,by rw[ac9,hob],rv5,hz5,w9⟩
  |true =>
   rw[av rfl]at q8' ⊢;refine thn (he _ s8' _ H8' _ I8' q8') ?_
   rintro yv s9 ⟨y,H9,I9,r9,m',hm',w9⟩
   obtain⟨⟨ac9,fa9⟩,k9⟩:=keep (ps:=[]) I9;rw[hob]at ac9;have hl:=rv5.length;refine cN F.slot_list_append ⟨_,ac9,rfl⟩ F.entry_list_append (F.args_list_append_2 _ _) (PySem.list_append N its.toArray k5 yv (by rw[aw];omega)) ⟨ac9,?_⟩
   have q:=PySem.IsL.update ac9 (λa=>a.push yv);have qo:∀b o,b≠N->s9.heap.get? b=some o->(s9.heap.update N (Obj.mapSeq (λa=>a.push yv))).get? b=some o:=λb o hb e=>(eM s9.heap _ (eD hb)).trans e;have q':∃k,(s9.heap.update N (Obj.mapSeq (λa=>a.push yv))).get? N=some {cls:=.type "list",data:=.seq (its++[yv]).toArray k}:=⟨_,by rw[q];simp;rfl⟩
   obtain⟨k9',q9⟩:=q';obtain⟨a0,a1,a2,a3,a4,a5⟩:=statA fa9;refine⟨m',hm',i+1,σ8,H9,ys++[y],its++[yv],k9',(I9.unpinned').turned qo a0 a1 a3 a4 a5,x8,T.keep _ _ _ st7 λb hb o e=>qo b o (λz=>accF (z ▸ hb)) ((k9 b hb).1 o e),λb hb=>(k9 b hb).2,fa9,q9,rv5.append (.cons r9 .nil),?_,w9⟩;rw[ae,aE];omega
theorem a6w{aD tg aF:Expr}{cnd:Option Expr}{aB:Scope}{pos ppos:Pos}{cl:List (Str×Addr)}{tt:Option Str}{ts fr:List Str}{ix:List Nat}{wi:TI}{g:TG}{tc:TT}{te:TE}(hc:X.calm=true)(S:CSg X aB cl tt ts fr ix)(hi:PI X tg aF wi)
  (hg:∀C fp s H,PG (cxG X (ts++fr) aB cl tt C fp s H) tg g) (he:∀C fp s H,PE (cxG X (ts++fr) aB cl tt C fp s H) aD te) (ht:∀C fp s H,PTO (cxG X (ts++fr) aB cl tt C fp s H) cnd tc) (hs:∀x,foldedSetIterable aF X.env x=pure x)
  (use:Option (Value->Sem Unit)) {aA:List (Addr×Obj)} {s:Shared} {σ:St} {H:Hp} {Q:VK} {Qf:Value->Shared->Prop} (I:Inv X aA σ H s) (h:a4e wi (xj ts.length ix) g tc te σ H Q) (fin:a5o X aA σ use Q Qf) :
  wpAny (model X.prog X.w) X.A (comprehension (.ListComp aD [⟨tg,aF,cnd.toList,0⟩] aB pos) aB X.env ppos (newList []) false (eval aF X.env) use) Qf X.xe s:=by
 refine wpAny_comprehension_free (use:=use) rfl hs S.clos S.kind S.names (thn (hi aA s σ H _ I h) λv s1 h1=>thn h1 λitv s2 h2=>?_);obtain⟨it,fp,tn,J,H2,e,I2,T,st2,f2,W,⟨m0,w0⟩,turn⟩:=h2;subst e;have hob:∀b∈fp,b<s2.heap.objs.size:=λb hb=>let ⟨o,e,_⟩:=T.obj _ _ st2 b hb;aT e;refine dB (af9 S.own S.push S.kind λh4 hns4 hc4 hsb4=>?_);dsimp only at hns4 hc4 hsb4 ⊢
 generalize hH2:s2.heap.push {cls:=.type "list",dict:=none,data:=.seq ([]:List Value).toArray}=G at hns4 hc4 hsb4 ⊢
 have hCs:G.objs.size=s2.heap.objs.size+1:=by rw[<-hH2,eQ]
 have hCle:s2.heap.objs.size<=G.objs.size:=by omega
 have hne:G.objs.size≠s2.heap.objs.size:=by omega
 have old:∀b o,s2.heap.get? b=some o->h4.get? b=some o:=λb o e=>by
  have hlt:=aT e;exact hsb4 b o (hH2 ▸ aI _ e)
 have hacc:h4.get? s2.heap.objs.size=some {cls:=.type "list",data:=.seq ([]:List Value).toArray 0} :=
  hsb4 _ _ (hH2 ▸ bo _ rfl)
 have K0:Inv (cxG X (ts++fr) aB cl tt G.objs.size fp s2 H2) [] (xj ts.length ix σ) H2 {s2 with heap:=h4} :=
  afc S I2 f2 hob hCle old hns4 hc4 rfl rfl
 have st4:tn 0 h4:=T.keep _ _ _ st2 λb _ o e=>old b o e;have accF:s2.heap.objs.size∉fp:=λz=>cH _ (hob _ z);have stat:∀{H':Hp},(∀b∈fp,H' b=none)->∀b∈fp,FpOk (cxG X (ts++fr) aB cl tt G.objs.size fp s2 H2) [] H' b:=λhn b hb =>
  asp (a8u S I2 f2 hob hCle) rfl (hn b hb) hb
 have statA:∀{H':Hp},H' s2.heap.objs.size=none->FpOk (cxG X (ts++fr) aB cl tt G.objs.size fp s2 H2) [] H' s2.heap.objs.size:=λhn =>
  am5 (a8u S I2 f2 hob hCle) rfl hn rfl (eD hne) λx c e=>by
   rcases look e with⟨_,rfl⟩|⟨_,e⟩
   .exact λz=>no3 z hCle
   .exact afd I2 (S.sub x c e)
 have loop:codeAny (model X.prog X.w) X.A (.compLoop (.ListComp aD [⟨tg,aF,cnd.toList,0⟩] aB pos) 0 (.ref it) (.ref s2.heap.objs.size) (compEnvC aB (am4 tt (G.objs.size+1) cl) G.objs.size X.env))
   (compPost (model X.prog X.w) X.A X.xe use Qf (.ref s2.heap.objs.size) G.objs.size) {s2 with heap:=h4} :=
  afe (Y:=cxG X (ts++fr) aB cl tt G.objs.size fp s2 H2) hc (λ_ _ h=>h) rfl T stat statA accF (hg _ _ _ _) (he _ _ _ _) (ht _ _ _ _) turn w0 K0 st4 (λb hb=>(f2 b hb).1) (I2.hok.fresh (a9 _)) hacc λs6 H6 ys its k I6 fa rv hz qn=>by
   have e6:=(I6.pin (s2.heap.objs.size,{cls:=.type "list",data:=.seq its.toArray k}) (by show _∈[]++[_];simp)).1
   obtain⟨m6,hn6,_⟩:=I6.loc;exact fin _ _ s6 _ m6 hn6 (I2.fpOk hCle (by rw[jk hne];exact I6.free)) (λh' sb=>a6v (Y:=cxG X (ts++fr) aB cl tt G.objs.size fp s2 H2) (ho:=.lst ys) I2 f2 hCle (a9 _) ⟨rfl,rfl,rfl,rfl,rfl,rfl,rfl⟩ I6.unpinned' fa ⟨hz,its,k,rv,sb.extBut _ _ (eD hne) e6⟩ sb) (qn _ fa)
 exact codeAny_compStart_list loop (T.self _ 0 _ _ _ st4 loop)
theorem a8v(hc:X.calm=true)(S:CSc X aB cl ts fr ix)(hi:PI X tg aF wi)
  (hg:∀C fp s H,PG (cxC X (ts++fr) aB cl C fp s H) tg g) (he:∀C fp s H,PE (cxC X (ts++fr) aB cl C fp s H) aD te) (hs:∀x,foldedSetIterable aF X.env x=pure x)
  (use:Option (Value->Sem Unit)) (I:Inv X aA σ H s) (h:afa wi (xj ts.length ix) g te σ H Q) (fin:a5o X aA σ use Q Qf) :
  wpAny (model X.prog X.w) X.A (comprehension (.ListComp aD [⟨tg,aF,[],0⟩] aB pos) aB X.env ppos (newList []) false (eval aF X.env) use) Qf X.xe s:=by
 refine a6w (cnd:=none) (tc:=λσ H Q=>Q true H) hc S hi hg he (λ_ _ _ _ aA s σ H Q I h=>aS ⟨H,I,h⟩) hs use I ?_ fin;unfold a4e aaf;unfold afa ao9 at h;simpa only[ef] using h
theorem aj2(hc:X.calm=true)(S:CSc X aB cl ts fr ix)(hi:PI X tg aF wi)
  (hg:∀C fp s H,PG (cxC X (ts++fr) aB cl C fp s H) tg g) (he:∀C fp s H,PE (cxC X (ts++fr) aB cl C fp s H) aD te)
  (hs:∀x,foldedSetIterable aF X.env x=pure x:=by intro _;rfl) :
  PE X (.ListComp aD [⟨tg,aF,[],0⟩] aB pos) (afa wi (xj ts.length ix) g te):=by
 intro aA s σ H Q I h
 rw[eval_ListComp];exact a8v hc S hi hg he hs none I h a7k
theorem aj3{spos:Pos}(hN:X.N.Nodup)(hi':X.N[i]? = some x)(hx:Loc X.env.scope x)(hc:X.calm=true)(S:CSc X aB cl ts fr ix)(hi:PI X tg aF wi)
  (hg:∀C fp s H,PG (cxC X (ts++fr) aB cl C fp s H) tg g) (he:∀C fp s H,PE (cxC X (ts++fr) aB cl C fp s H) aD te)
  (hs:∀x,foldedSetIterable aF X.env x=pure x:=by intro _;rfl) (hsw:swapsWith (.ListComp aD [⟨tg,aF,[],0⟩] aB pos) (some (.Name x pos')) spos.line X.env=pure true:=by rfl) (hf:Hf X x:=by first|exact .inl rfl|exact .inr rfl|assumption) :
  PS X (.Assign [.Name x pos'] (.ListComp aD [⟨tg,aF,[],0⟩] aB pos) spos) (awp (afa wi (xj ts.length ix) g te) (a6j i)):=by
 intro aA s σ H D I h
 rw[exec_Assign_Name_used _ _ _ _ hsw];refine ax (dY (ax ?_));refine ax (bP (a8v hc S hi hg he hs (some (assign (.Name x pos') X.env)) I h (abr hN hi' hx hf)) (λ_ s' hq=>aS (aS hq)) λ_ _ e=>e)
end
section
variable{K:Type}[DecidableEq K]
noncomputable def stepK(l:List K)(v:K):List K:=if v∈l then l else l++[v]
def a4w(l:List K):List K:=l.foldl stepK []
theorem afg(l:List K)(v k:K):k∈stepK l v↔k∈l\/k=v:=by
 unfold stepK;split
 .rename_i h
  constructor
  .exact .inl
  .rintro(z|rfl)
   .exact z
   .exact h
 .simp
theorem a8w(l:List K)(v:K):(stepK l v).length=if v∈l then l.length else l.length+1:=by
 unfold stepK;split<;>simp
theorem a4f:∀(l acc:List K),acc.Nodup->(l.foldl stepK acc).Nodup/\(l.foldl stepK acc).length<=acc.length+l.length/\((l.foldl stepK acc).length=acc.length+l.length↔(acc++l).Nodup)
 |[],acc,h=>by simp[h]
 |v::l,acc,h=>by
  rw[dC];unfold stepK
  split
  .rename_i hv;obtain⟨h1,h2,h3⟩:=a4f l acc h;unfold stepK at h1 h2 h3;refine⟨h1,by rw[aL];omega,?_⟩
   constructor
   .intro e;rw[aL]at e;omega
   .intro e
    have:=(bA.mp e).2.2 v hv v aY
    exact absurd rfl this
  .rename_i hv;obtain⟨h1,h2,h3⟩:=a4f l (acc++[v]) (by
    rw[bA];exact⟨h,by simp,λa ha b hb=>by rw[aK]at hb;subst hb;rintro rfl;exact hv ha⟩)
   unfold stepK at h1 h2 h3;rw[ae,aE]at h2 h3;rw[dZ,eU]at h3;refine⟨h1,by rw[aL];omega,?_⟩
   rw[<-h3,aL];omega
theorem a8x(l:List K):((a4w l).length=l.length)↔l.Nodup:=by
 have h:=(a4f l [] dM).2.2;rw[bp,eV,bG]at h;exact h
theorem afh{J:Type}[DecidableEq J](f:K->J)(hf:∀a b,f a=f b->a=b)(l:List K):a4w (l.map f)=(a4w l).map f:=by
 have key:∀(l acc:List K),(l.map f).foldl stepK (acc.map f)=(l.foldl stepK acc).map f:=by
  intro l
  induction l with
  |nil=>intro acc;rfl
  |cons v l ih =>
   intro acc
   rw[bg,dC,dC];have e:stepK (acc.map f) (f v)=(stepK acc v).map f:=by
    unfold stepK
    by_cases hv:v∈acc
    .rw[av hv,av (fq hv)]
    .rw[aO hv,aO (λz=>by
      obtain⟨a,ha,e⟩:=bD.mp z;rw[hf a v e]at ha;exact hv ha)]
     simp
   rw[e,ih]
 exact key l []
noncomputable def aag(val:Nat->K)(i:Nat):List K:=a4w ((List.range i).map val)
theorem a5p(val:Nat->K)(i:Nat):aag val (i+1)=stepK (aag val i) (val i):=by
 unfold aag a4w;rw[List.range_succ,cJ,List.foldl_append];rfl
theorem afi(val:Nat->K):∀i,(aag val i).length<=i
 |0=>by simp[aag,a4w]
 |i+1=>by
  rw[a5p,a8w];have:=afi val i
  split<;>omega
end
section
variable{prog:Program}{w:World}{K:Type}[DecidableEq K]{knd:KeyKind prog w K}{A:Around}{R:Result->Shared->Prop}
def Held(knd:KeyKind prog w K)(S:Addr)(val:Nat->K)(i:Nat)(h:Heap):Prop:=h.SetOf knd S (λk=>decide (k∈aag val i)) (aag val i).length
theorem Held.keep{h':Heap}(x:Held knd S val i h)(k:∀o,h.get? S=some o->h'.get? S=some o):Held knd S val i h':=by
 obtain⟨o,es,ep,t,e,aG⟩:=x;exact⟨o,es,ep,t,k o e,aG⟩
theorem aj4{s:Shared}(is:knd.is (val i) v=true)(sc:v.scannable=true)(few:i+1<scanBound)(x:Held knd S val i s.heap)
  (q:∀b h' tk,Held knd S val (i+1) h'->(∀c,c≠S->h'.get? c=s.heap.get? c)->Q b {s with heap:=h',toks:=tk}):wpAny (model prog w) A (setAdd S v) Q E s:=by
 have le:=afi val i;have key:∀k,(decide (k∈aag val i) || decide (k=val i))=decide (k∈aag val (i+1)):=λk=>by
  rw[a5p,cU];simp[afg]
 have num:(if decide (val i∈aag val i)=true then (aag val i).length else (aag val i).length+1)=(aag val (i+1)).length:=by
  rw[a5p,a8w];simp
 have y:wpAny (model prog w) A (setAddHashed S v (knd.hash (val i))) Q E {s with toks:=s.toks+1} :=
  wpAny_setAddHashed_of is sc x (by omega) λh' same z=>q _ h' _ (by unfold Held;rw[<-num,<-funext key];exact z) λc hc=>same.2 c hc
 exact cW (ax (knd.pyHash is y))
theorem a5q{I S:Addr}{fp wr:List Addr}{n:Nat}{P:Nat->Value->Prop}{St:Nat->Heap->Prop}(W:Walks prog w A.in1 I fp wr n P St)(apart:S∉fp)(val:Nat->K)(key:∀i v,P i v->knd.is (val i) v=true/\v.scannable=true)(few:n+1<scanBound) :
  ∀(left i:Nat) (s:Shared),i+left=n->St i s.heap->Held knd S val i s.heap->
   (∀h' tk,Held knd S val n h'->(∀c o,c≠S->c∉wr->s.heap.get? c=some o->h'.get? c=some o)->R (.ok (.ret .none)) {s with heap:=h',toks:=tk})->
   codeAny (model prog w) A (.builtin "set.update.loop" ⟨[.ref S,.ref I],[]⟩) R s
 | 0,i,s,hi,st,x,fin=>fv F.entry_set_update_loop (by
   obtain rfl:i=n:=by omega
   simp only[Around.under_plainId eI];exact ax (W.done s _ _ st λh' tk k=>aS (fin h' tk (x.keep λo e=>k S o (λz=>apart (W.sub S z)) e) λc o _ hc e=>k c o hc e)))
 | left+1,i,s,hi,st,x,fin=>fv F.entry_set_update_loop (by
   simp only[Around.under_plainId eI];refine ax (W.item i s _ _ (by omega) st λv h1 t1 p st1 k1=>?_)
   obtain⟨is,sc⟩:=key i v p;refine ax (cW (aj4 is sc (by omega) (x.keep λo e=>k1 S o (λz=>apart (W.sub S z)) e) λ_ h2 t2 x2 k2=>?_))
   refine aS ⟨plainId_quiet eI _,a5q W apart val key few left (i+1) _ (by omega) (W.frame _ _ _ st1 λc hc o e=>(k2 c (λz=>apart (z ▸ hc))).trans e) x2 λh3 t3 x3 k3=>?_⟩
   exact fin h3 t3 x3 λc o cS cw e=>k3 c o cS cw ((k2 c cS).trans (k1 c o cw e)))
end
theorem aj5:isSubtype (.type "str") (.type "set")=pure false/\isSubtype (.type "str") (.type "frozenset")=pure false:=by
 constructor<;>(rw[isSubtype_type];kernel_rfl)
section
variable{prog:Program}{w:World}{A:Around}{E:Value->Shared->Prop}{s:Shared}
def a4t(x:Str)(i:Nat):Str:=⟨#[x.cps.getD i 0]⟩
abbrev a2q(led:Bool):Obj:={cls:=.type "set",dict:=none,data:=.set #[] 0 (.fresh 0 0 led)}
theorem afj{K:Type}[DecidableEq K]{knd:KeyKind prog w K}{S:Addr}{val:Nat->K}{h:Heap}{led:Bool}(e:h.get? S=some (a2q led)):Held knd S val 0 h :=
 (PyProof.Rows.setObjOf_fresh (knd:=knd) led).setOf e (by decide)
theorem aj6{x:Str}{t:Tok}{led:Bool}{R:Result->Shared->Prop}(hh:A.handled=none)(few:x.cps.size+1<scanBound)
  (q:∀h' tk,Held (strKind prog w) s.heap.objs.size (a4t x) x.cps.size h'->(∀c o,s.heap.get? c=some o->h'.get? c=some o)->R (.ok (.ret .none)) {s with heap:=h',toks:=tk}) :
  wpAny (model prog w) A.in1 (Builtin.«set.__init__» ⟨[.ref s.heap.objs.size,.str x t],[]⟩)
   (λfin s'=>match fin with|.done f=>R (.ok f) s'|.again c'=>c'.quiet=true/\codeAny (model prog w) A c' R s') (λe s'=>R (.error e) s') {s with heap:=s.heap.push (a2q led)}:=by
 have at0:(s.heap.push (a2q led)).get? s.heap.objs.size=some (a2q led):=bo _ rfl;have ne1:(Value.type "str" == Value.type "dict")=false:=by decide
 obtain⟨no1,no2⟩:=aj5;unfold Builtin.«set.__init__»;unfold noKeywords Builtin.Frozenset.updateFrom
 generalize ep:pyIter=walker
 wp_walk
 subst ep;refine wpAny_pyIter_str λo St W st=>ax (wpAny_runValue ?_);have far:s.heap.objs.size∉[(s.heap.push (a2q led)).objs.size]:=λz=>by
  have:=aK.mp z
  rw[eQ]at this;exact absurd this (bV (Nat.lt_succ_self _))
 refine a5q (knd:=strKind prog w) (W _ (by simp[hh])) far (a4t x) (λi v ⟨c,u,e,ev⟩=>?_) few x.cps.size 0 _ (by omega) st (afj (aI _ at0)) λh' tk held k=>?_
 .subst ev;refine⟨?_,rfl⟩;have ec:a4t x i=⟨#[c]⟩:=by simp[a4t,Array.getD_eq_getD_getElem?,e]
  rw[ec];show Value.isStrOf _ (.str _ u)=true;simp[Value.isStrOf]
 .refine aS (aS ?_);refine q h' tk held λc o e=>k c o ?_ ?_ (aI _ (aI _ e))
  .exact bV (aT e)
  .intro z
   have:=aK.mp z
   rw[eQ]at this;exact absurd (aT e) (by rw[this];exact Nat.not_lt.mpr (Nat.le_succ _))
theorem a8y{x:Str}(hh:A.handled=none)(few:x.cps.size+1<scanBound)
  (q:∀h' tk,Held (strKind prog w) s.heap.objs.size (a4t x) x.cps.size h'->(∀c o,s.heap.get? c=some o->h'.get? c=some o)->Q (.ref s.heap.objs.size) {s with heap:=h',toks:=tk}) :
  wpAny (model prog w) A (call (.type "set") [.str x t]) Q E s:=by
 obtain⟨_,_,order⟩:=dW.mro;have made:=dW.made;have self:=dW.sub;have nt:=dW.notType;have cc:=dW.canCreate;have tc:=F.typeCall_set_1 (.str x t);refine wpAny_call (codeAny_of_tree (aS ⟨Code.quiet_builtin _ (by decide +kernel),fv F.entry_type_call ?_⟩))
 simp only[Around.under_plain (weight_type_call_type "set" [.str x t] []) rfl]
 repeat any_goals first|assumption|wp_step
 refine eR (code_set_new_1 (.str x t) (E:=E) (Q₁:=λobj s1=>obj=.ref s.heap.objs.size/\∃led,s1={s with heap:=s.heap.push (a2q led)}) λled=>⟨rfl,led,rfl⟩) λr s1 hr=>?_
 match r,hr with
 |.error _,hr=>exact hr
 |.ok (.ret _),⟨eo,led,es⟩ =>
  subst eo es;have ty:Shared.TypeIs {s with heap:=s.heap.push (a2q led)} (.ref s.heap.objs.size) "set":=⟨_,bo _ rfl,rfl⟩
  have look:=dW.init.lookup;have bound:=dW.init.bind (.ref s.heap.objs.size)
  repeat any_goals first|assumption|wp_step
  refine eR (eZ (R:=wants (λr s2=>r=.none/\Q (.ref s.heap.objs.size) s2) E) dW.init.plain F.entry_set_init (check_set_init_1 ty (aj6 hh few λh' tk x1 k1=>⟨rfl,q h' tk x1 k1⟩))) λr2 s2 hr2=>?_
  match r2,hr2 with
  |.error _,hr2=>exact hr2
  |.ok (.ret _),⟨e2,q2⟩ =>
   subst e2
   repeat any_goals first|assumption|wp_step
  |.ok .next,hr2=>exact hr2.elim
  |.ok .brk,hr2=>exact hr2.elim
  |.ok .cont,hr2=>exact hr2.elim
 |.ok .next,hr=>exact hr.elim
 |.ok .brk,hr=>exact hr.elim
 |.ok .cont,hr=>exact hr.elim
end
noncomputable def axy(a:Addr)(P:Program)(w:World)(n:Nat):HO:=.ext λh=>∃S,h.SetOf (strKind P w) a S n
section
variable{X:Cx}
theorem adi(hc:X.calm=true):CallR X (.type "set") (λxs H Q=>∃z,xs=[.str z]/\z.length<=1000/\∀l,H l=none->Q (.ref l) (upd H l (axy l X.prog X.w (a4w z.cps.toList).length))):=by
 intro aA s σ H xs us Q I r h
 obtain⟨z,rfl,hz,q⟩:=h;obtain⟨u,rfl,t,rfl⟩:=vals1 r;have hz':z.cps.size<=1000:=hz;refine a8y (I.ok.hd hc) (by unfold scanBound;omega) λh' tk hS kp=>?_
 unfold Held at hS;have en:(aag (a4t z) z.cps.size).length=(a4w z.cps.toList).length:=by
  have e1:(List.range z.cps.size).map (a4t z)=z.cps.toList.map λc=>(⟨#[c]⟩:Str):=by
   apply List.ext_getElem?
   intro i
   rw[bT,bT]
   by_cases hi:i<z.cps.size
   .rw[List.getElem?_range hi];simp[a4t,hi]
   .rw[List.getElem?_eq_none (by simpa using hi),List.getElem?_eq_none (by simpa using hi)];rfl
  unfold aag;rw[e1,afh (λc=>(⟨#[c]⟩:Str)) (λa b e=>by cases e;rfl),aJ]
 rw[en]at hS;refine⟨.ref s.heap.objs.size,_,I.laid (t':=tk) (o:=axy s.heap.objs.size X.prog X.w (a4w z.cps.toList).length) kp (a9 _) ?_,rfl,q _ (I.hok.fresh (a9 _))⟩;refine⟨⟨_,hS⟩,let ⟨o,_,_,_,e,_⟩:=hS; ⟨o,e⟩,λh1 h2 p k=>?_⟩;obtain⟨S,o,es,ep,t,e,r⟩:=p;exact⟨S,o,es,ep,t,k o e,r⟩
theorem call_len_set:CallR X (.builtin "len") (λxs H Q=>∃l n,xs=[.ref l]/\H l=some (axy l X.prog X.w n)/\Q (.int (n:Nat)) H):=by
 intro aA s σ H xs us Q I r h
 obtain⟨l,n,rfl,hl,q⟩:=h;obtain⟨u,rfl,rx⟩:=vals1 r;cases rx
 obtain⟨⟨S,o,es,ep,t,e,hex,hd,_,_,hb,hf,hn⟩,_⟩:=I.hok l _ hl;refine PySem.call_len_set e hex hd hf (by unfold scanBound at hb;omega) ⟨.int (n:Nat),H,I.tok _,⟨_,by rw[hn]⟩,q⟩
end
end L2
namespace L2
theorem afk:bootBuiltins "len" = some (.builtin "len"):=PySem.boot_len
theorem ju:bootBuiltins "isinstance" = some (.builtin "isinstance"):=by first|exact PySem.boot_isinstance|exact PyProof.Rows.boot_isinstance
theorem asq:bootBuiltins "str" = some (.type "str"):=by first|exact PySem.boot_str|exact PyProof.Rows.boot_str
theorem asr:bootBuiltins "ord" = some (.builtin "ord"):=by first|exact PySem.boot_ord|exact PyProof.Rows.boot_ord
theorem ass:bootBuiltins "set" = some (.type "set"):=by first|exact PySem.boot_set|exact PyProof.Rows.boot_set
theorem asu:bootBuiltins "all" = some (.builtin "all"):=by first|exact PySem.boot_all|exact PyProof.Rows.boot_all
theorem asv:bootBuiltins "abs" = some (.builtin "abs"):=by first|exact PySem.boot_abs|exact PyProof.Rows.boot_abs
theorem am6:bootBuiltins "int" = some (.type "int"):=by first|exact PySem.boot_int|exact PyProof.Rows.boot_int
theorem aoa:bootBuiltins "list" = some (.type "list"):=by first|exact PySem.boot_list|exact PyProof.Rows.boot_list
theorem abt:bootBuiltins "tuple" = some (.type "tuple"):=by first|exact PySem.boot_tuple|exact PyProof.Rows.boot_tuple
structure Dn (P:Program) (w:World) (K:Fg) (mg:Str->Option Value) (base:Heap) (k:Nat) (x:Str) (ps:List Str) (sp:Sp) (f:Addr) (fd:FuncData):Prop where
 ok:FnOk P w K mg base CX0 k f fd ps sp
 m:mg x=some (.ref f)
 kp:PySem.W.keepIn K (.ref f)=true
 b:Binds K fd ps []
theorem axz:sizeLine=16777216:=fO
theorem a7l(h:n<=16777216):n<=sizeLine:=by rw[fO];exact h
theorem CSc.noFree{aB:Scope}(kind:aB.kind=.function)(h:∀y∈aB.names,y.2≠.cell/\y.2≠.free)(names:∀y∈aB.names,y.2=.local->aB.names.lookup y.1=some .local)
  (ht:∀y∈ts,aB.names.lookup y=some .local):CSc X aB [] ts [] []:=by
 have e:(relabel aB X.env).names=aB.names:=by
  show aB.names.map _=_;refine map_eq_self λy hy=>?_;obtain⟨n,k⟩:=y;have:(k == NameKind.free)=false:=by simpa using (h _ hy).2
  simp[this]
 refine⟨closureFor_none λy hy=>(h y hy).2,kind,λ_=>a7j λy hy=>(h y hy).1,λ_=>aae λy hy=>(h y hy).1,names,(λ_ _ z=>nomatch z),λy z=>?_,rfl,(λ_ _ z=>by simp at z)⟩
 rw[e]at z
 rcases z with z|z
 .exact absurd rfl (h _ (bY z)).1
 .exact absurd rfl (h _ (bY z)).2
theorem ay0(x y:Str):(x++y).cps.toList=x.cps.toList++y.cps.toList:=by
 show(x.cps++y.cps).toList=_;simp
theorem aah{α:Type}(xs:List α)(k:Nat):a6k xs none (some (k:Int))=xs.take k:=by
 unfold a6k;rw[HT.abp,HT.aez,gp,Nat.sub_zero]
 by_cases h:k<=xs.length
 .rw[Nat.min_eq_left h]
 .rw[Nat.min_eq_right (by omega),cf (a9 _),cf (by omega)]
theorem a8z{α:Type}(xs:List α)(k:Nat):a6k xs (some (k:Int)) none=xs.drop k:=by
 unfold a6k;rw[HT.abp,HT.aez]
 by_cases h:k<=xs.length
 .rw[Nat.min_eq_left h,cf (by rw[b6];omega)]
 .rw[Nat.min_eq_right (by omega),cA (a9 _),cA (by omega),List.take_nil]
end L2
namespace L2
open PyProof.Rows
section
variable{X:Cx}
theorem a5r(hc:X.calm=true)(S:CSc X aB cl ts fr ix)(hi:PI X tg aF wi)
  (hg:∀C fp s H,PG (cxC X (ts++fr) aB cl C fp s H) tg g) (he:∀C fp s H,PE (cxC X (ts++fr) aB cl C fp s H) aD te) (ht:∀C fp s H,PT (cxC X (ts++fr) aB cl C fp s H) cnd tc) (hs:∀x,foldedSetIterable aF X.env x=pure x)
  (use:Option (Value->Sem Unit)) (I:Inv X aA σ H s) (h:a4e wi (xj ts.length ix) g tc te σ H Q) (fin:a5o X aA σ use Q Qf) :
  wpAny (model X.prog X.w) X.A (comprehension (.ListComp aD [⟨tg,aF,[cnd],0⟩] aB pos) aB X.env ppos (newList []) false (eval aF X.env) use) Qf X.xe s :=
 a6w (cnd:=some cnd) hc S hi hg he ht hs use I h fin
theorem adk(hc:X.calm=true)(S:CSc X aB cl ts fr ix)(hi:PI X tg aF wi)
  (hg:∀C fp s H,PG (cxC X (ts++fr) aB cl C fp s H) tg g) (he:∀C fp s H,PE (cxC X (ts++fr) aB cl C fp s H) aD te) (ht:∀C fp s H,PT (cxC X (ts++fr) aB cl C fp s H) cnd tc)
  (hs:∀x,foldedSetIterable aF X.env x=pure x:=by intro _;rfl) :
  PE X (.ListComp aD [⟨tg,aF,[cnd],0⟩] aB pos) (a4e wi (xj ts.length ix) g tc te):=by
 intro aA s σ H Q I h
 rw[eval_ListComp];exact a5r hc S hi hg he ht hs none I h a7k
theorem adl{spos:Pos}(hN:X.N.Nodup)(hi':X.N[i]? = some x)(hx:Loc X.env.scope x)(hc:X.calm=true)(S:CSc X aB cl ts fr ix)(hi:PI X tg aF wi)
  (hg:∀C fp s H,PG (cxC X (ts++fr) aB cl C fp s H) tg g) (he:∀C fp s H,PE (cxC X (ts++fr) aB cl C fp s H) aD te) (ht:∀C fp s H,PT (cxC X (ts++fr) aB cl C fp s H) cnd tc)
  (hs:∀x,foldedSetIterable aF X.env x=pure x:=by intro _;rfl) (hsw:swapsWith (.ListComp aD [⟨tg,aF,[cnd],0⟩] aB pos) (some (.Name x pos')) spos.line X.env=pure true:=by rfl) (hf:Hf X x:=by first|exact .inl rfl|exact .inr rfl|assumption) :
  PS X (.Assign [.Name x pos'] (.ListComp aD [⟨tg,aF,[cnd],0⟩] aB pos) spos) (awp (a4e wi (xj ts.length ix) g tc te) (a6j i)):=by
 intro aA s σ H D I h
 rw[exec_Assign_Name_used _ _ _ _ hsw];refine ax (dY (ax ?_));refine ax (bP (a5r hc S hi hg he ht hs (some (assign (.Name x pos') X.env)) I h (abr hN hi' hx hf)) (λ_ s' hq=>aS (aS hq)) λ_ _ e=>e)
end
section
variable{X:Cx}
def aai(T:Str)(c:Nat):Int:=Txt.find T ⟨#[c]⟩
theorem aaj(s sub:Str)(hi limit:Nat):∀(l:List Nat) (st:Array Nat×Nat) (k:Nat),k∈(forIn l st (StrLaws.occBody s sub hi limit)).run.fst.toList->k∈st.fst.toList\/(k+sub.length<=hi/\Builtin.Str.subAt s sub k=true)
 |[],st,k,h=>.inl h
 |a::l,st,k,h=>by
  rw[List.forIn_cons]at h;unfold StrLaws.occBody at h
  split at h
  .rename_i c
   rcases aaj s sub hi limit l _ k h with z|z
   .simp at z
    rcases z with z|z
    .exact .inl (by simpa using z)
    .subst z;exact .inr ⟨c.1.2,c.2⟩
   .exact .inr z
  .rcases aaj s sub hi limit l _ k h with z|z
   .exact .inl z
   .exact .inr z
theorem abu{T:Str}(h:c∈T.cps.toList):∃i:Nat,aai T c=(i:Int)/\T.cps.toList[i]? = some c/\∃aG,Builtin.Str.occurrences T ⟨#[c]⟩ 0 T.length 1=i::aG:=by
 have h1:=fM T c;rw[ay h]at h1
 cases ho:Builtin.Str.occurrences T ⟨#[c]⟩ 0 T.length 1 with
 |nil=>rw[ho]at h1;cases h1
 |cons i aG =>
  refine⟨i,by simp[aai,Txt.find,ho],?_,aG,rfl⟩
  rw[StrLaws.occ_eq]at ho;have hm:=aaj T ⟨#[c]⟩ T.length 1 (List.range' 0 (T.length+1-0)) (#[],0) i (by rw[ho];exact aY)
  rcases hm with z|z
  .simp at z
  .exact(StrLaws.subAt_one T c i).mp z
theorem afl:OpR X (compareOp .In) (λx y H Q=>∃c T,x=.str ⟨#[c]⟩/\y=.str T/\Q (.bl (decide (c∈T.cps.toList))) H):=by
 intro aA s σ H x y v u Q I rx ry h
 obtain⟨c,T,rfl,rfl,q⟩:=h;exact aeq aA s σ H _ _ v u Q I rx ry ⟨_,_,rfl,rfl,by rw[fM];exact q⟩
theorem adm:OpR X (compareOp .NotIn) (λx y H Q=>∃c T,x=.str ⟨#[c]⟩/\y=.str T/\Q (.bl (!decide (c∈T.cps.toList))) H):=by
 intro aA s σ H x y v u Q I rx ry h
 obtain⟨c,T,rfl,rfl,q⟩:=h;exact a8f aA s σ H _ _ v u Q I rx ry ⟨_,_,rfl,rfl,by rw[fM];exact q⟩
theorem aj7:MtR X "str.index" (λx xs H Q=>∃T c,x=.str T/\xs=[.str ⟨#[c]⟩]/\c∈T.cps.toList/\Q (.int (aai T c)) H):=by
 intro aA s σ H x xs v us Q I rx rs h
 obtain⟨T,c,rfl,rfl,hc,q⟩:=h;obtain⟨t,rfl⟩:=rx;obtain⟨u,rfl,t',rfl⟩:=vals1 rs;obtain⟨i,e1,e2,aG,ho⟩:=abu hc;refine cN F.slot_str_index (typeIs_str _ _ _) F.entry_str_index (F.args_str_index_2 _ _) (gives_str_index _ _ _ _ i aG ho).meets ⟨.int (aai T c),H,I.tok _,⟨_,by rw[e1]⟩,q⟩
theorem aob{zs:List Str}:∀{us:List Value},Vals (zs.map V.str) us->StrsAre us zs:=by
 induction zs with
 |nil=>intro us r;rw[cY]at r;cases r;exact .nil
 |cons z zs ih =>
  intro us r
  rw[bg]at r
  cases r with
  |cons r1 r2 =>
   obtain⟨t,e⟩:=r1;subst e;exact .cons z t (ih r2)
theorem aoc:MtR X "str.join" (λx xs H Q=>∃sep p zs,x=.str sep/\xs=[.ref p]/\SqL X.K H p (zs.map V.str)/\(zs.map (·.length)).sum+zs.length*sep.length<=16777216/\Q (.str (Txt.join sep zs)) H):=by
 intro aA s σ H x xs v us Q I rx rs h
 obtain⟨sep,p,zs,rfl,rfl,hp,hz,q⟩:=h;obtain⟨t,rfl⟩:=rx;obtain⟨u,rfl,ru⟩:=vals1 rs;cases ru
 obtain⟨its,r,pl,_⟩:=I.list hp;exact join_list pl.isList (by simpa using aob r) hz λt' k=>⟨.str _,H,I.tok _,⟨_,rfl⟩,q⟩
end
theorem CSc.of{X:Cx}{ts fr:List Str}{ix:List Nat}(clos:closureFor aB X.env=pure cl)(kind:aB.kind=.function)
  (nocell:(aB.names.all λp=>p.2 != .cell)=true) (names:(aB.names.all λp=>p.2 != .local || aB.names.lookup p.1 == some .local)=true) (sub:∀p∈cl,X.env.cells.lookup p.1=some p.2)
  (has:((relabel aB X.env).names.all λp => !(p.2 == .cell || p.2 == .free) || (cl.lookup p.1).isSome)=true) (nofn:(ts.all λy=>(relabel aB X.env).names.lookup y == some .local)=true)
  (len:ix.length=fr.length) (vis:((fr.zip ix).all λp=>X.N[p.2]? == some p.1 && (X.env.kindOf p.1 == some .cell || X.env.kindOf p.1 == some .free) && ((relabel aB X.env).names.lookup p.1 == some .cell || (relabel aB X.env).names.lookup p.1 == some .free))=true) :
  CSc X aB cl ts fr ix:=by
 have nc:∀y∈aB.names,y.2≠.cell:=λy hy=>by
  have:=aM.mp nocell y hy
  simpa using this
 refine⟨clos,kind,λ_=>a7j nc,λ_=>aae nc,λy hy e=>?_,λy c e=>sub _ (bY e),λy z=>.inr ?_,len,λj y e=>⟨nofun,?_⟩⟩
 .have:=aM.mp names y hy
  rw[e]at this;simpa using this
 .have key:∀k,(relabel aB X.env).names.lookup y=some k->(k == .cell || k == .free)=true->∃c,cl.lookup y=some c:=λk e hk=>by
   have:=aM.mp has _ (bY e)
   rw[hk]at this;exact fK.mp (by simpa using this)
  rcases z with z|z
  .exact key _ z rfl
  .exact key _ z rfl
 .obtain⟨hj,_⟩:=ag.mp e;have hj2:j<ix.length:=by omega
  have hm:(y,ix[j])∈fr.zip ix:=by
   rw[List.mem_iff_getElem?];exact⟨j,by rw[List.getElem?_zip_eq_some];exact⟨e,a8 hj2⟩⟩
  have:=aM.mp vis _ hm
  simp only[af,cC,fh]at this;exact⟨ix[j],a8 hj2,this.1.1,this.1.2,this.2⟩
def tSM(r:V->List V->Hp->VK->Prop)(to:TE)(t:TA):TE:=λσ H Q=>to σ H λx H1=>(∃z,x=.str z)/\t σ H1 λxs H2=>r x xs H2 Q
theorem ay1{X:Cx}{o e:Expr}{es:List Expr}{to:TE}{t:TA}{name:Str}{apos cpos:Pos}{id:String}{r:V->List V->Hp->VK->Prop}(slot:Slot "str" name id)(hty:typeOf (.builtin id)=pure (.type "method_descriptor"))(hm:MtR X id r)(ho:PE X o to)(ha:PA X (e::es) t)
  (hbase:attributeBase o name X.env (eval o X.env)=eval o X.env:=by rfl)
  (hfew:((backTo cpos (starEach (e::es) X.env)).all (λx => !x.1) && (backToKw cpos (keywordEach [] X.env)).all (λx=>x.1.isSome)
   && decide ((e::es).length+([]:List Keyword).length+(if ([]:List Keyword).isEmpty then 0 else 1)<30))=true:=by rfl)
  (hline:(apos.endLine == cpos.line)=true:=by rfl) (hs:starEach (e::es) X.env=(false,eval e X.env)::starEach es X.env:=by rfl) (hplain:(backTo cpos (starEach es X.env)).any (·.1)=false:=by rfl) :
  PE X (.Call (.Attribute o name apos) (e::es) [] cpos) (tSM r to t):=by
 intro aA s σ H Q I h
 refine wpAny_Call_method_late hbase hfew hline rfl (thn (ho aA s σ H _ I h) λv s1 ⟨x,H1,I1,r1,⟨z,hz⟩,q1⟩=>?_);subst hz;obtain⟨h1,h2⟩:=am1 (T := "str") I1 r1 rfl;refine⟨"str",id,PySem.F.plainAttrs_str,slot,hty,h1,h2,?_⟩;have hA:=ha cpos aA s1 σ H1 _ I1 q1;rw[hs]at hA ⊢;refine Calls.callWith_builtin (by show(false || (backTo cpos (starEach es X.env)).any (·.1))=false;rw[hplain]<;>rfl) (eY ?_)
 exact thn hA λus s2 ⟨vs,H2,I2,r2,q2⟩=>hm aA s2 σ H2 _ vs v us Q I2 r1 r2 q2
section
variable{X:Cx}
theorem adn(hc:X.calm=true):CallR X (.builtin "sum") (λxs H Q=>∃(p:Addr) (ns:List Int),xs=[.ref p]/\SqL X.K H p (ns.map V.int)/\Q (.int ns.sum) H):=by
 intro aA s σ H xs us Q I r h
 obtain⟨p,ns,rfl,hq,q⟩:=h;obtain⟨u,rfl,rx⟩:=vals1 r;cases rx
 obtain⟨its,r',pl,hz⟩:=I.list hq;have hInts:IntsAre its ns:=intsAre_of r';obtain⟨prs,ep⟩:=hInts.allInts.items;refine sum_intListG (xs:=prs) (I.ok.hd hc) (ep ▸ pl.isList) λh' tk t' hk=>⟨.int ns.sum,H,I.kept hk,⟨t',?_⟩,q⟩;have nums:prs.toList.map (·.1)=ns:=by
  rw[<-nums_intItems,<-ep];exact hInts.numsOf
 have tot:preSum (numAt prs) prs.size=ns.sum:=by
  rw[preSum_eq,<-nums]
  congr 1
  exact cf (by simp)
 rw[tot]
end
open PySem.AutoSeq1 in
theorem a5s(l b:Addr)(xs ys:Array Value)(n m:Nat)(dd:Option Addr)(sl:Array (Option Value))(long:¬(!xs.isEmpty && Builtin.List.listTooLong (xs.size+ys.size))=true)(fit1:xs.size<=sizeLine)(fit2:xs.size+ys.size<=sizeLine+1) :
  Meets (Builtin.«list.extend» ⟨[.ref l,.ref b],[]⟩) (λ_ R s=>(s.heap.get? l=some {cls:=.type "list",dict:=none,data:=.seq xs n,slots := #[]}/\s.heap.get? b=some {cls:=.type "tuple",dict:=dd,data:=.seq ys m,slots:=sl})/\R (.ok (.ret Value.none)) {s with heap:=s.heap.update l (Obj.mapSeq (·++ys))}) :=
 .of_wp λprog w A R ⟨hp,gn,dr,tk,os⟩ ⟨⟨hl,hb⟩,q⟩=>by
  have a1:=idx_int;have a2:=AutoSeq1.sub_tuple_tuple;have a3:=AutoSeq1.sub_list_list;have a4:=AutoSeq1.sub_tuple_list;have a5:=AutoSeq1.sub_list_tuple;have both:(xs++ys).size<=sizeLine+1:=by simpa using fit2
  wp_walk using wpAny_updateSeq hl rfl (hz:=fit1) (_hz':=both),wpAny_loadPart' hl,wpAny_loadPart' hb
  exact⟨_,rfl,q⟩
section
variable{X:Cx}
def abv(K:Fg):V->List V->Hp->VK->Prop:=λx vs H Q=>∃l b xs zs,x=.ref l/\vs=[.ref b]/\H l=some (.lst xs)/\SqT K H b zs/\xs.length+zs.length<=sizeLine/\Q .non (upd H l (.lst (xs++zs)))
theorem ado:MtM X "list.extend" (abv X.K):=by
 intro aA s σ H x vs v us Q I rx rv h
 obtain⟨l,b,xs,zs,rfl,rfl,hH,hB,hz,q⟩:=h;cases rx
 obtain⟨u,rfl,ru⟩:=rv.one;cases ru
 obtain⟨z,its,n,r,hl,e⟩:=I.lstM hH;obtain⟨its2,r2,p2,_⟩:=I.tuple hB;have hl2:=r2.length;obtain⟨⟨cls,dd,data,sl⟩,e2,hc,hrest⟩:=id p2;have hsz:its.toArray.size+its2.toArray.size<=sizeLine:=by rw[aw,aw];omega
 have hlong:¬ (!its.toArray.isEmpty && Builtin.List.listTooLong (its.toArray.size+its2.toArray.size))=true:=by
  rw[a5c hsz,cP];exact aU
 obtain⟨n2,hd⟩:=(show ∃n2,data=.seq its2.toArray n2 from by first|exact hrest|exact⟨_,hrest.2⟩|(obtain⟨_,n,hd⟩:=hrest;exact⟨n,hd⟩))
 have hc':cls=.type "tuple":=hc;subst hc' hd;refine cN F.slot_list_extend ⟨_,e,rfl⟩ F.entry_list_extend (F.args_list_extend_2 _ _)
  (a5s l b its.toArray its2.toArray n n2 dd sl hlong (by rw[aw];omega) (by omega)) ⟨⟨e,e2⟩,?_⟩
 refine⟨.non,_,I.lset (its':=its++its2) hH e (by simp) (r.append r2) ?_,rfl,q⟩
 rw[ae];omega
end
end L2
namespace MI
open L2
inductive D where
 |non|bl (b:Bool)|int (i:Int)|str (x:Str)|ty (n:String)|tup (xs:List D)|rol (xs:List D)|ref (i:Nat)|scr (xs:List D)|rod (ks:List Key) (xs:List D)|rdT (ks:List (List Key)) (xs:List D)|exc (c:Str)|ins (c:Str) (ks:List Str) (xs:List D)
inductive O where
 |lst (xs:List D)|dK (kvs:List (Key×D))|dT (kvs:List (List Key×D))|ins (c:Str) (fs:List (Str×D))|dN (kvs:List ((Int×List Int)×D))
abbrev Hd:=List O
abbrev Sd:=List (Option D)
inductive R (α:Type) where
 |ok (a:α) (h:Hd)|ex (c:Str) (h:Hd)|no
noncomputable def R.bind{α β:Type}:R α->(α->Hd->R β)->R β
 |.ok a h,k=>k a h
 |.ex c h,_=>.ex c h
 |.no,_=>.no
inductive Fl where
 |nx (σ:Sd) (h:Hd)|rt (d:D) (h:Hd)|bk (σ:Sd) (h:Hd)|ct (σ:Sd) (h:Hd)|ex (c:Str) (h:Hd)|no
noncomputable def R.fl{α:Type}:R α->(α->Hd->Fl)->Fl
 |.ok a h,k=>k a h
 |.ex c h,_=>.ex c h
 |.no,_=>.no
abbrev SE:=Sd->Hd->R D
abbrev ST:=Sd->Hd->R Bool
abbrev SA:=Sd->Hd->R (List D)
abbrev SS:=Sd->Hd->Fl
def SqF(K:Fg)(H:Hp)(a:Addr)(vs:List V):Prop:=(∃o,H a=some (.frz o (.lst vs)))\/SqL K (λ_=>none) a vs
theorem SqF.l(h:SqF K H a vs):SqL K H a vs:=by
 rcases h with⟨o,h⟩|h
 .exact .inl (.inr ⟨o,h⟩)
 .rcases h with(h|⟨o,h⟩)|h
  .cases h
  .cases h
  .exact .inr h
def SqZ(H:Hp)(a:Addr)(vs:List V):Prop:=∃o,H a=some (.frz o (.lst vs))
theorem SqZ.l(h:SqZ H a vs):SqL K H a vs:=let ⟨o,e⟩:=h; .inl (.inr ⟨o,e⟩)
noncomputable def exO(a:Addr):HO:=.ext λh=>∃o,h.get? a=some o
mutual
inductive Rep (K:Fg) (U:List Addr) (H:Hp):V->D->Prop
 |non:Rep K U H .non .non
 |bl (b:Bool):Rep K U H (.bl b) (.bl b)
 |int (i:Int):Rep K U H (.int i) (.int i)
 |str (x:Str):Rep K U H (.str x) (.str x)
 |ty (n:String):Rep K U H (.ty n) (.ty n)
 |tup {a:Addr} {vs:List V} {xs:List D} (h:H a=some (.tup vs)) (r:Reps K U H vs xs):Rep K U H (.ref a) (.tup xs)
 |rol {a:Addr} {vs:List V} {xs:List D} (h:SqZ H a vs) (r:Reps K U H vs xs):Rep K U H (.ref a) (.rol xs)
 |scr {a:Addr} {vs:List V} {xs:List D} (h:SqF K H a vs) (r:Reps K U H vs xs):Rep K U H (.ref a) (.scr xs)
 |ref {a:Addr} {i:Nat} (h:U[i]? = some a):Rep K U H (.ref a) (.ref i)
 |rod {a:Addr} {o:Obj} {us:List (Key×V)} {ks:List Key} {xs:List D} (h:H a=some (.frz o (.dK us))) (e:us.map (·.1)=ks) (r:Reps K U H (us.map (·.2)) xs):Rep K U H (.ref a) (.rod ks xs)
 |rdT {a:Addr} {o:Obj} {us:List (List Key×V)} {ks:List (List Key)} {xs:List D} (h:H a=some (.frz o (.dT us))) (e:us.map (·.1)=ks) (r:Reps K U H (us.map (·.2)) xs):Rep K U H (.ref a) (.rdT ks xs)
 |exc {a C:Addr} {o:Obj} {c:Str} (h:H a=some (.frz o (exO a))) (hc:o.cls=.ref C) (hn:PySem.W.nsIn K mainGlobals c=some (some (.ref C))):Rep K U H (.ref a) (.exc c)
 |ins {a C dx:Addr} {o:Obj} {c:Str} {us:List (Str×V)} {ks:List Str} {xs:List D} (h:H a=some (.frz o (.ins C dx us))) (hn:PySem.W.nsIn K mainGlobals c=some (some (.ref C))) (e:us.map (·.1)=ks) (r:Reps K U H (us.map (·.2)) xs):Rep K U H (.ref a) (.ins c ks xs)
inductive Reps (K:Fg) (U:List Addr) (H:Hp):List V->List D->Prop
 |nil:Reps K U H [] []
 |cons {v:V} {d:D} {vs:List V} {ds:List D} (r:Rep K U H v d) (rs:Reps K U H vs ds):Reps K U H (v::vs) (d::ds)
end
structure Gw (U:List Addr) (H:Hp) (U':List Addr) (H':Hp):Prop where
 pre:∃m,U'=U++m
 tup:∀a vs,H a=some (.tup vs)->H' a=some (.tup vs)
 frz:∀a o u,H a=some (.frz o u)->H' a=some (.frz o u)
structure Gr (U:List Addr) (H:Hp) (U':List Addr) (H':Hp):Prop where
 pre:∃m,U'=U++m/\∀a∈m,H a=none
 tup:∀a vs,H a=some (.tup vs)->H' a=some (.tup vs)
 frz:∀a o u,H a=some (.frz o u)->H' a=some (.frz o u)
 oth:∀a u,H a=some u->a∉U->H' a=some u
 kp:∀a u,H a=some u->∃u',H' a=some u'
theorem Gr.w(g:Gr U H U' H'):Gw U H U' H':=⟨let ⟨m,e,_⟩:=g.pre; ⟨m,e⟩,g.tup,g.frz⟩
theorem Gr.refl(U:List Addr)(H:Hp):Gr U H U H:=⟨⟨[],by simp,by simp⟩,λ_ _ h=>h,λ_ _ _ h=>h,λ_ _ h _=>h,λ_ u h=>⟨u,h⟩⟩
theorem Gr.trans(a:Gr U H U1 H1)(b:Gr U1 H1 U2 H2):Gr U H U2 H2:=by
 obtain⟨m,rfl,hm⟩:=a.pre;obtain⟨n,rfl,hn⟩:=b.pre;refine⟨⟨m++n,by simp,λx hx=>?_⟩,λx vs h=>b.tup x vs (a.tup x vs h),λx o u h=>b.frz x o u (a.frz x o u h),λx u h hx=>?_,λx u h=>?_⟩
 .rcases bb.mp hx with hx|hx
  .exact hm x hx
  .cases e:H x with
   |none=>rfl
   |some u =>
    obtain⟨u',e'⟩:=a.kp x u e;rw[hn x hx]at e';cases e'
 .refine b.oth x u (a.oth x u h hx) λz=>?_
  rcases bb.mp z with z|z
  .exact hx z
  .rw[hm x z]at h;cases h
 .obtain⟨u',e⟩:=a.kp x u h;exact b.kp x u' e
theorem Gw.at(g:Gw U H U' H'){i:Nat}(h:U[i]? = some a):U'[i]? = some a:=by
 obtain⟨m,rfl⟩:=g.pre;rw[aV (ag.mp h).1];exact h
theorem Gr.at(g:Gr U H U' H'){i:Nat}(h:U[i]? = some a):U'[i]? = some a:=g.w.at h
theorem SqF.monoW(g:Gw U H U' H')(h:SqF K H a vs):SqF K H' a vs:=by
 rcases h with⟨o,h⟩|h
 .exact .inl ⟨o,g.frz _ _ _ h⟩
 .exact .inr h
theorem SqZ.monoW(g:Gw U H U' H')(h:SqZ H a vs):SqZ H' a vs:=let ⟨o,e⟩:=h; ⟨o,g.frz _ _ _ e⟩
theorem SqZ.mono(g:Gr U H U' H')(h:SqZ H a vs):SqZ H' a vs:=h.monoW g.w
mutual
theorem Rep.monoW(g:Gw U H U' H'):∀{v:V} {d:D},Rep K U H v d->Rep K U' H' v d
 |_,_,.non=>.non
 |_,_,.bl b=>.bl b
 |_,_,.int i=>.int i
 |_,_,.str x=>.str x
 |_,_,.ty n=>.ty n
 |_,_,.tup h r=>.tup (g.tup _ _ h) (Reps.monoW g r)
 |_,_,.rol h r=>.rol (h.monoW g) (Reps.monoW g r)
 |_,_,.scr h r=>.scr (h.monoW g) (Reps.monoW g r)
 |_,_,.ref h=>.ref (g.at h)
 |_,_,.rod h e r=>.rod (g.frz _ _ _ h) e (Reps.monoW g r)
 |_,_,.rdT h e r=>.rdT (g.frz _ _ _ h) e (Reps.monoW g r)
 |_,_,.exc h hc hn=>.exc (g.frz _ _ _ h) hc hn
 |_,_,.ins h hn e r=>.ins (g.frz _ _ _ h) hn e (Reps.monoW g r)
theorem Reps.monoW(g:Gw U H U' H'):∀{vs:List V} {ds:List D},Reps K U H vs ds->Reps K U' H' vs ds
 |_,_,.nil=>.nil
 |_,_,.cons r rs=>.cons (Rep.monoW g r) (Reps.monoW g rs)
end
theorem Rep.mono(g:Gr U H U' H')(r:Rep K U H v d):Rep K U' H' v d:=r.monoW g.w
theorem Reps.mono(g:Gr U H U' H')(r:Reps K U H vs ds):Reps K U' H' vs ds:=r.monoW g.w
section
variable{K:Fg}{U:List Addr}{H:Hp}
theorem Reps.len:Reps K U H vs ds->vs.length=ds.length
 |.nil=>rfl
 |.cons _ rs=>by rw[aL,aL,rs.len]
theorem Reps.get:∀{vs:List V} {ds:List D} {i:Nat} {d:D},Reps K U H vs ds->ds[i]? = some d->∃v,vs[i]? = some v/\Rep K U H v d
 |_,_,_,_,.nil,e=>by simp at e
 |_,_,0,_,.cons r _,e=>by simp at e;subst e;exact⟨_,rfl,r⟩
 |_,_,i+1,d,.cons _ rs,e=>by
  obtain⟨u,h1,h2⟩:=Reps.get (i:=i) (d:=d) rs (by simpa using e)
  exact⟨u,by simpa using h1,h2⟩
theorem Reps.app:∀{vs us:List V} {ds es:List D},Reps K U H vs ds->Reps K U H us es->Reps K U H (vs++us) (ds++es)
 |_,_,_,_,.nil,s=>s
 |_,_,_,_,.cons r rs,s=>.cons r (Reps.app rs s)
theorem Reps.set(q:Rep K U H v d):∀{vs:List V} {ds:List D} (i:Nat),Reps K U H vs ds->Reps K U H (vs.set i v) (ds.set i d)
 |_,_,_,.nil=>.nil
 |_,_,0,.cons _ rs=>.cons q rs
 |_,_,i+1,.cons r rs=>.cons r (Reps.set q i rs)
theorem Reps.take:∀{vs:List V} {ds:List D} (n:Nat),Reps K U H vs ds->Reps K U H (vs.take n) (ds.take n)
 |_,_,0,_=>.nil
 |_,_,_+1,.nil=>.nil
 |_,_,n+1,.cons r rs=>.cons r (Reps.take n rs)
theorem Reps.drop:∀{vs:List V} {ds:List D} (n:Nat),Reps K U H vs ds->Reps K U H (vs.drop n) (ds.drop n)
 |_,_,0,r=>r
 |_,_,_+1,.nil=>.nil
 |_,_,n+1,.cons _ rs=>Reps.drop n rs
theorem Reps.snoc(r:Reps K U H vs ds)(q:Rep K U H v d):Reps K U H (vs++[v]) (ds++[d]):=r.app (.cons q .nil)
theorem Reps.flat:∀{vs:List V} {ds:List D} (k:Nat),Reps K U H vs ds->Reps K U H (List.replicate k vs).flatten (List.replicate k ds).flatten
 |_,_,0,_=>.nil
 |vs,ds,k+1,r=>by
  rw[bZ,bZ,bU,bU];exact r.app (Reps.flat k r)
end
def KRep{κ:Type}(K:Fg)(U:List Addr)(H:Hp)(us:List (κ×V))(kvs:List (κ×D)):Prop:=us.map (·.1)=kvs.map (·.1)/\Reps K U H (us.map (·.2)) (kvs.map (·.2))
def ORep(K:Fg)(U:List Addr)(H:Hp)(a:Addr):O->Prop
 |.lst xs=>∃vs,H a=some (.lst vs)/\Reps K U H vs xs
 |.dK kvs=>∃us,H a=some (.dK us)/\KRep K U H us kvs
 |.dT kvs=>∃us,H a=some (.dT us)/\KRep K U H us kvs
 |.ins c fs=>∃C dx us,H a=some (.ins C dx us)/\PySem.W.nsIn K mainGlobals c=some (some (.ref C))/\KRep K U H us fs
 |.dN kvs=>∃ent,NDE H a ent/\KRep K U H (axw ent) kvs
structure HRep (K:Fg) (U:List Addr) (H:Hp) (h:Hd):Prop where
 nd:U.Nodup
 len:U.length=h.length
 obj:∀(i:Nat) (a:Addr) (o:O),U[i]? = some a->h[i]? = some o->ORep K U H a o
section
variable{K:Fg}{U:List Addr}{H:Hp}{h:Hd}
theorem ORep.some(r:ORep K U H a o):∃u,H a=some u/\(∀vs,u≠.tup vs)/\(∀o' u',u≠.frz o' u'):=by
 cases o with
 |lst xs=>obtain⟨vs,e,_⟩:=r;exact⟨_,e,λ_ z=>(by cases z),λ_ _ z=>(by cases z)⟩
 |dK kvs=>obtain⟨us,e,_⟩:=r;exact⟨_,e,λ_ z=>(by cases z),λ_ _ z=>(by cases z)⟩
 |dT kvs=>obtain⟨us,e,_⟩:=r;exact⟨_,e,λ_ z=>(by cases z),λ_ _ z=>(by cases z)⟩
 |ins c fs=>obtain⟨C,dx,us,e,_⟩:=r;exact⟨_,e,λ_ z=>(by cases z),λ_ _ z=>(by cases z)⟩
 |dN kvs =>
  obtain⟨ent,e,_⟩:=r
  rcases e with⟨e,_⟩|⟨e,_⟩
  .exact⟨_,e.has,λ_ z=>(by cases z),λ_ _ z=>(by cases z)⟩
  .exact⟨_,e,λ_ z=>(by cases z),λ_ _ z=>(by cases z)⟩
theorem HRep.at(r:HRep K U H h){i:Nat}(e:U[i]? = some a):∃o,h[i]? = some o/\ORep K U H a o:=by
 have hi:i<h.length:=by rw[<-r.len];exact(ag.mp e).1
 exact⟨h[i],a8 hi,r.obj i a _ e (a8 hi)⟩
theorem HRep.addr(r:HRep K U H h){i:Nat}(e:h[i]? = some o):∃a,U[i]? = some a/\ORep K U H a o:=by
 have hi:i<U.length:=by rw[r.len];exact(ag.mp e).1
 exact⟨U[i],a8 hi,r.obj i _ o (a8 hi) e⟩
theorem HRep.notin(r:HRep K U H h)(e:H p=none):p∉U:=λz=>by
 obtain⟨i,hi⟩:=c9 z;obtain⟨o,_,q⟩:=r.at hi;obtain⟨u,q,_⟩:=q.some;rw[e]at q;cases q
theorem ORep.monoW(g:Gw U H U' H')(e:H' a=H a)(r:ORep K U H a o):ORep K U' H' a o:=by
 cases o with
 |lst xs=>obtain⟨vs,h1,h2⟩:=r;exact⟨vs,by rw[e];exact h1,h2.monoW g⟩
 |dK kvs=>obtain⟨us,h1,h2,h3⟩:=r;exact⟨us,by rw[e];exact h1,h2,h3.monoW g⟩
 |dT kvs=>obtain⟨us,h1,h2,h3⟩:=r;exact⟨us,by rw[e];exact h1,h2,h3.monoW g⟩
 |ins c fs=>obtain⟨C,dx,us,h1,hn,h2,h3⟩:=r;exact⟨C,dx,us,by rw[e];exact h1,hn,h2,h3.monoW g⟩
 |dN kvs=>obtain⟨ent,h1,h2,h3⟩:=r;exact⟨ent,h1.keeps e g.tup,h2,h3.monoW g⟩
theorem ORep.mono(g:Gr U H U' H')(e:H' a=H a)(r:ORep K U H a o):ORep K U' H' a o:=r.monoW g.w e
theorem a1e(e:H p=none)(o:HO):Gr U H U (upd H p o) :=
 ⟨⟨[],by simp,by simp⟩,λa vs h=>by rw[jk (iw h e)];exact h,λa o u h=>by rw[jk (iw h e)];exact h,λa u h _=>by rw[jk (iw h e)];exact h,λa u h=>⟨u,by rw[jk (iw h e)];exact h⟩⟩
theorem HRep.aside(r:HRep K U H h)(e:H p=none)(o:HO):HRep K U (upd H p o) h:=by
 refine⟨r.nd,r.len,λi a o' e1 e2=>?_⟩;have q:=r.obj i a o' e1 e2;obtain⟨u,hu,_⟩:=q.some;exact q.mono (a1e e o) (jk (iw hu e))
theorem abw(e:H p=none)(o:HO):Gr U H (U++[p]) (upd H p o) :=
 ⟨⟨[p],rfl,by simpa using e⟩,(a1e (U:=U) e o).tup,(a1e (U:=U) e o).frz,(a1e (U:=U) e o).oth,(a1e (U:=U) e o).kp⟩
theorem HRep.add(r:HRep K U H h)(e:H p=none)(q:ORep K (U++[p]) (upd H p o) p ob):HRep K (U++[p]) (upd H p o) (h++[ob]):=by
 refine⟨?_,by simp[r.len],λi a o' e1 e2=>?_⟩
 .rw[bA];exact⟨r.nd,by simp,λa ha b hb z=>r.notin e (by rw[aK.mp hb]at z;rw[<-z];exact ha)⟩
 .by_cases hi:i<U.length
  .rw[aV hi]at e1;rw[aV (by rw[<-r.len];exact hi)]at e2
   have q:=r.obj i a o' e1 e2;obtain⟨u,hu,_⟩:=q.some;exact q.mono (abw e o) (jk (iw hu e))
  .have hi2:i<(U++[p]).length:=(ag.mp e1).1;have:i=U.length:=by simp at hi2;omega
   subst this;rw[aN (a9 _)]at e1;rw[r.len,aN (a9 _)]at e2;simp at e1 e2;subst e1 e2;exact q
theorem a6x{i:Nat}(r:HRep K U H h)(e:U[i]? = some a)(o:HO):Gr U H U (upd H a o):=by
 obtain⟨_,_,q⟩:=r.at e;obtain⟨u,hu,n1,n2⟩:=q.some;refine⟨⟨[],by simp,by simp⟩,λb vs hb=>?_,λb o' u' hb=>?_,λb u' hb hn=>?_,λb u' hb=>?_⟩
 .rw[jk (λz=>by subst z;rw[hu]at hb;exact n1 _ (bJ hb))];exact hb
 .rw[jk (λz=>by subst z;rw[hu]at hb;exact n2 _ _ (bJ hb))];exact hb
 .rw[jk (λz=>hn (by subst z;exact bB e))];exact hb
 .by_cases z:b=a
  .subst z;exact⟨o,qe⟩
  .exact⟨u',by rw[jk z];exact hb⟩
theorem HRep.put(r:HRep K U H h){i:Nat}(e:U[i]? = some a)(q:ORep K U (upd H a o) a ob):HRep K U (upd H a o) (h.set i ob):=by
 refine⟨r.nd,by rw[dR];exact r.len,λj b o' e1 e2=>?_⟩
 by_cases hj:i=j
 .subst hj;rw[e]at e1;cases e1
  have hi:i<h.length:=by rw[<-r.len];exact(ag.mp e).1
  rw[cb hi]at e2;cases e2
  exact q
 .rw[cL hj]at e2;have hne:b≠a:=λz=>by
   subst z;obtain⟨h1,g1⟩:=ag.mp e;obtain⟨h2,g2⟩:=ag.mp e1;have np:=cD.mp r.nd
   rcases Nat.lt_or_gt_of_ne hj with l|l
   .exact np i j h1 h2 l (g1.trans g2.symm)
   .exact np j i h2 h1 l (g2.trans g1.symm)
  exact(r.obj j b o' e1 e2).mono (a6x r e o) (jk hne)
end
structure SRep (K:Fg) (U:List Addr) (H:Hp) (σ:St) (τ:Sd):Prop where
 len:σ.length=τ.length
 val:∀(i:Nat) (d:D),τ[i]? = some (some d)->∃v,σ[i]? = some (some v)/\Rep K U H v d
theorem SRep.mono(g:Gr U H U' H')(s:SRep K U H σ τ):SRep K U' H' σ τ :=
 ⟨s.len,λi d e=>let ⟨v,h1,h2⟩:=s.val i d e; ⟨v,h1,h2.mono g⟩⟩
theorem SRep.set(s:SRep K U H σ τ)(r:Rep K U H v d)(i:Nat):SRep K U H (σ.set i (some v)) (τ.set i (some d)):=by
 refine⟨by simp[s.len],λj d' e=>?_⟩
 by_cases hj:i=j
 .subst hj;have hi:i<τ.length:=by
   have:=(ag.mp e).1
   simpa using this
  rw[cb hi]at e;cases e
  exact⟨v,by rw[cb (by rw[s.len];exact hi)],r⟩
 .rw[cL hj]at e ⊢;exact s.val j d' e
abbrev XD:=Str->List Addr->Hp->Hd->Prop
def out{α β:Type}(K:Fg)(E:XD)(Rp:List Addr->Hp->β->α->Prop)(U:List Addr)(H:Hp)(r:R α)(Q:β->Hp->Prop):Prop :=
 match r with
 |.ok a h=>∀U' H' b,Gr U H U' H'->Rp U' H' b a->HRep K U' H' h->Q b H'
 |.ex c h=>∀U' H',Gr U H U' H'->HRep K U' H' h->E c U' H' h
 |.no=>False
theorem a5d{α β:Type}{K:Fg}{E:XD}{Rp:List Addr->Hp->β->α->Prop}{U U1:List Addr}{H H1:Hp}{r:R α}{Q:β->Hp->Prop}(o:out K E Rp U H r Q)(g:Gr U H U1 H1):out K E Rp U1 H1 r Q:=by
 cases r with
 |ok a h=>exact λU' H' b g'=>o U' H' b (g.trans g')
 |ex c h=>exact λU' H' g'=>o U' H' (g.trans g')
 |no=>exact o
theorem dg{α β γ δ:Type}{K:Fg}{E:XD}{Rp:List Addr->Hp->β->α->Prop}{Sp:List Addr->Hp->δ->γ->Prop}{U:List Addr}{H:Hp}{r:R α}{k:α->Hd->R γ}{Q:δ->Hp->Prop}{P:β->Hp->Prop}
  (o:out K E Sp U H (r.bind k) Q) (hP:∀a h U1 H1 b,Gr U H U1 H1->Rp U1 H1 b a->HRep K U1 H1 h->out K E Sp U1 H1 (k a h) Q->P b H1):out K E Rp U H r P:=by
 cases r with
 |ok a h=>exact λU' H' b g r' hr=>hP a h U' H' b g r' hr (a5d o g)
 |ex c h=>exact o
 |no=>exact o
abbrev ur(K:Fg):List Addr->Hp->V->D->Prop:=λU H v d=>Rep K U H v d
abbrev b0l(K:Fg):List Addr->Hp->List V->List D->Prop:=λU H v d=>Reps K U H v d
abbrev am7:List Addr->Hp->Bool->Bool->Prop:=λ_ _ a b=>a=b
abbrev b0m:List Addr->Hp->Option Int->Option Int->Prop:=λ_ _ a b=>a=b
def ai5(K:Fg)(E:XD)(U:List Addr)(H:Hp)(r:Fl)(N:Ends):Prop :=
 match r with
 |.nx τ h=>∀U' H' σ,Gr U H U' H'->SRep K U' H' σ τ->HRep K U' H' h->N.nx σ H'
 |.bk τ h=>∀U' H' σ,Gr U H U' H'->SRep K U' H' σ τ->HRep K U' H' h->N.bk σ H'
 |.ct τ h=>∀U' H' σ,Gr U H U' H'->SRep K U' H' σ τ->HRep K U' H' h->N.ct σ H'
 |.rt d h=>∀U' H' v,Gr U H U' H'->Rep K U' H' v d->HRep K U' H' h->N.rt v H'
 |.ex c h=>∀U' H',Gr U H U' H'->HRep K U' H' h->E c U' H' h
 |.no=>False
theorem sr(o:ai5 K E U H r N)(g:Gr U H U1 H1):ai5 K E U1 H1 r N:=by
 cases r with
 |nx τ h=>exact λU' H' b g'=>o U' H' b (g.trans g')
 |bk τ h=>exact λU' H' b g'=>o U' H' b (g.trans g')
 |ct τ h=>exact λU' H' b g'=>o U' H' b (g.trans g')
 |rt d h=>exact λU' H' b g'=>o U' H' b (g.trans g')
 |ex c h=>exact λU' H' g'=>o U' H' (g.trans g')
 |no=>exact o
theorem ut{α β:Type}{K:Fg}{E:XD}{Rp:List Addr->Hp->β->α->Prop}{U:List Addr}{H:Hp}{r:R α}{k:α->Hd->Fl}{N:Ends}{P:β->Hp->Prop}
  (o:ai5 K E U H (r.fl k) N) (hP:∀a h U1 H1 b,Gr U H U1 H1->Rp U1 H1 b a->HRep K U1 H1 h->ai5 K E U1 H1 (k a h) N->P b H1):out K E Rp U H r P:=by
 cases r with
 |ok a h=>exact λU' H' b g r' hr=>hP a h U' H' b g r' hr (sr o g)
 |ex c h=>exact o
 |no=>exact o
def lift{α β:Type}(K:Fg)(E:XD)(Rp:List Addr->Hp->β->α->Prop)(f:Sd->Hd->R α):St->Hp->(β->Hp->Prop)->Prop:=λσ H Q =>
 ∃U τ h,SRep K U H σ τ/\HRep K U H h/\out K E Rp U H (f τ h) Q
noncomputable def a5t(K:Fg)(E:XD)(f:SS):TS:=λN σ H=>∃U τ h,SRep K U H σ τ/\HRep K U H h/\ai5 K E U H (f τ h) N
abbrev ME(X:Cx)(E:XD)(e:Expr)(f:SE):Prop:=PE X e (lift X.K E (ur X.K) f)
abbrev MT(X:Cx)(E:XD)(e:Expr)(f:ST):Prop:=PT X e (lift X.K E am7 f)
abbrev MW(X:Cx)(E:XD)(e:Expr)(f:ST):Prop:=PW X e (lift X.K E am7 f)
abbrev MA(X:Cx)(E:XD)(es:List Expr)(f:SA):Prop:=PA X es (lift X.K E (b0l X.K) f)
abbrev MS(X:Cx)(E:XD)(st:Stmt)(f:SS):Prop:=PS X st (a5t X.K E f)
abbrev MSs(X:Cx)(E:XD)(st:List Stmt)(f:SS):Prop:=PSs X st (a5t X.K E f)
theorem PE.weak(h:PE X e t)(i:∀σ H Q,t' σ H Q->t σ H Q):PE X e t':=λaA s σ H Q I q=>h aA s σ H Q I (i _ _ _ q)
theorem PT.weak(h:PT X e t)(i:∀σ H Q,t' σ H Q->t σ H Q):PT X e t':=λaA s σ H Q I q=>h aA s σ H Q I (i _ _ _ q)
theorem PW.weak(h:PW X e t)(i:∀σ H Q,t' σ H Q->t σ H Q):PW X e t':=λwh aA s σ H Q I q=>h wh aA s σ H Q I (i _ _ _ q)
theorem PA.weak(h:PA X e t)(i:∀σ H Q,t' σ H Q->t σ H Q):PA X e t':=λpos aA s σ H Q I q=>h pos aA s σ H Q I (i _ _ _ q)
theorem PS.weak(h:PS X e t)(i:∀N σ H,t' N σ H->t N σ H):PS X e t':=λaA s σ H N I q=>h aA s σ H N I (i _ _ _ q)
theorem PSs.weak(h:PSs X e t)(i:∀N σ H,t' N σ H->t N σ H):PSs X e t':=λaA s σ H N I q=>h aA s σ H N I (i _ _ _ q)
abbrev LINE:Nat:=16777216
theorem ll{n:Nat}(h:n<=LINE):n<=sizeLine:=a7l h
noncomputable def sV(i:Nat):SE:=λτ h=>match τ[i]? with|some (some d)=>.ok d h|_=>.no
def sC(d:D):SE:=λ_ h=>.ok d h
abbrev sI(i:Int):SE:=sC (.int i)
section
variable{X:Cx}{E:XD}{a b c e:Expr}{fa fb fc:SE}{pos:Pos}
theorem asw(i:Nat)(hN:X.N[i]? = some x:=by rfl)(hv:Vis X.env.scope x:=by with_unfolding_all first|exact Or.inl rfl|exact Or.inr (Or.inl rfl)|exact Or.inr (Or.inr rfl))(hd:(x == ("__debug__" : Str))=false:=by decide)
  (hcd:(x == ("__classdict__" : Str))=false:=by decide):ME X E (.Name x pos) (sV i):=by
 refine PE.weak (aei hN hv hd hcd) ?_
 rintro σ H Q ⟨U,τ,h,S,Rh,o⟩
 unfold sV at o
 split at o
 .rename_i d e;obtain⟨v,h1,h2⟩:=S.val i d e;exact⟨v,h1,o U H v (.refl _ _) h2 Rh⟩
 .exact o.elim
theorem aqw(h:PE X e (tC v))(r:∀U H,Rep X.K U H v d):ME X E e (sC d) :=
 PE.weak h λσ H Q ⟨U,τ,h,S,Rh,o⟩=>o U H v (.refl _ _) (r U H) Rh
theorem asx{i j pos}:ME X E (.Constant (.int i) j pos) (sC (.int i)):=aqw ara λ_ _=>.int i
theorem ay2{i j pos}:ME X E (.Constant (.bool i) j pos) (sC (.bl i)):=aqw ax9 λ_ _=>.bl i
theorem asy{i j pos}:ME X E (.Constant (.str i) j pos) (sC (.str i)):=aqw arc λ_ _=>.str i
theorem afm{j pos}:ME X E (.Constant .none j pos) (sC .non):=aqw arb λ_ _=>.non
theorem aj8(hg:Gl X x)(hm:X.mg x=none)(hv:bootBuiltins x=some (.type n))(hn:x ≠ "__name__":=by decide)(hd:(x == ("__debug__" : Str))=false:=by decide):ME X E (.Name x pos) (sC (.ty n)) :=
 aqw (aa7 (v:=.ty n) hg hm hv rfl hn hd) λ_ _=>.ty n
theorem aak(hg:Gl X x)(hm:X.mg x=some (.int i t))(hd:(x == ("__debug__" : Str))=false:=by decide):ME X E (.Name x pos) (sC (.int i)) :=
 aqw (zb (v:=.int i) hg hm ⟨t,rfl⟩ hd) λ_ _=>.int i
noncomputable def s2(g:D->D->Hd->R D)(fa fb:SE):SE:=λτ h=>(fa τ h).bind λx h1=>(fb τ h1).bind λy h2=>g x y h2
noncomputable def s1(g:D->Hd->R D)(fa:SE):SE:=λτ h=>(fa τ h).bind g
def a01(K:Fg)(g:D->D->Hd->R D)(r:R2):Prop:=∀(E:XD) U H h x y dx dy Q,Rep K U H x dx->Rep K U H y dy->HRep K U H h->out K E (ur K) U H (g dx dy h) Q->r x y H Q
def b0n(K:Fg)(g:D->Hd->R D)(r:V->Hp->VK->Prop):Prop:=∀(E:XD) U H h x dx Q,Rep K U H x dx->HRep K U H h->out K E (ur K) U H (g dx h) Q->r x H Q
def abx(K:Fg)(g:List D->Hd->R D)(r:List V->Hp->VK->Prop):Prop:=∀(E:XD) U H h xs ds Q,Reps K U H xs ds->HRep K U H h->out K E (ur K) U H (g ds h) Q->r xs H Q
theorem awt(hs:a01 K g r)(q:lift K E (ur K) (s2 g fa fb) σ H Q):tOp r (lift K E (ur K) fa) (lift K E (ur K) fb) σ H Q:=by
 obtain⟨U,τ,h,S,Rh,o⟩:=q;refine⟨U,τ,h,S,Rh,dg o λd h1 U1 H1 v g1 r1 hr1 o1=>?_⟩;refine⟨U1,τ,h1,S.mono g1,hr1,dg o1 λd2 h2 U2 H2 u g2 r2 hr2 o2=>?_⟩;exact hs E U2 H2 h2 v u d d2 Q (r1.mono g2) r2 hr2 o2
theorem a90(ho:OpR X (binaryOp op) r)(hs:a01 X.K g r)(ha:ME X E a fa)(hb:ME X E b fb):ME X E (.BinOp a op b pos) (s2 g fa fb) :=
 PE.weak (axl ho ha hb) λσ H Q q=>awt hs q
theorem a2r(ho:OpR X (compareOp op) r)(hs:a01 X.K g r)(ha:ME X E a fa)(hb:ME X E b fb)(hm:behindInMarks op b=false):ME X E (.Compare a [op] [b] pos) (s2 g fa fb) :=
 PE.weak (anw ho ha hb hm) λσ H Q q=>awt hs q
theorem ay3(ho:UnR X (unaryOp op) r)(hs:b0n X.K g r)(ha:ME X E a fa):ME X E (.UnaryOp op a pos) (s1 g fa):=by
 refine PE.weak (axm ho ha) ?_
 rintro σ H Q ⟨U,τ,h,S,Rh,o⟩
 exact⟨U,τ,h,S,Rh,dg o λd h1 U1 H1 v g1 r1 hr1 o1=>hs E U1 H1 h1 v d Q r1 hr1 o1⟩
theorem ay4(ho:IxR X r)(hs:a01 X.K g r)(ha:ME X E a fa)(hb:ME X E b fb)(hp:a7g b):ME X E (.Subscript a b pos) (s2 g fa fb) :=
 PE.weak (axt ho ha hb hp) λσ H Q q=>awt hs q
noncomputable def asB(d:D)(h:Hd):R Bool:=match d with|.bl b=>.ok b h|_=>.no
def sT(f:SE):ST:=λτ h=>(f τ h).bind asB
theorem aal(hi:∀σ H Q,lift K E (ur K) f σ H Q->t σ H Q)(q:lift K E am7 (sT f) σ H Q):aio t σ H Q:=by
 refine hi σ H _ ?_;obtain⟨U,τ,h,S,Rh,o⟩:=q;refine⟨U,τ,h,S,Rh,dg o λd h1 U1 H1 v g1 r1 hr1 o1=>?_⟩
 cases r1 with
 |bl b=>exact⟨b,rfl,o1 U1 H1 b (.refl _ _) rfl hr1⟩
 |_=>exact o1.elim
theorem a7m(ho:OpR X (compareOp op) r)(hs:a01 X.K g r)(ha:ME X E a fa)(hb:ME X E b fb)(hm:behindInMarks op b=false):MT X E (.Compare a [op] [b] pos) (sT (s2 g fa fb)) :=
 PT.weak (anx ho ha hb hm) λσ H Q q=>aal (λ_ _ _=>awt hs) q
noncomputable def sCh(g g':D->D->Hd->R D)(fa fb fc:SE):SE:=λτ h=>(fa τ h).bind λx h1=>(fb τ h1).bind λy h2=>(g x y h2).bind λz h3=>match z with
 |.bl true=>(fc τ h3).bind λw h4=>g' y w h4
 |.bl false=>.ok (.bl false) h3
 |_=>.no
theorem am8(hs:a01 K g r)(hs':a01 K g' r')(q:lift K E (ur K) (sCh g g' fa fb fc) σ H Q) :
  aer r r' (lift K E (ur K) fa) (lift K E (ur K) fb) (lift K E (ur K) fc) σ H Q:=by
 obtain⟨U,τ,h,S,Rh,o⟩:=q;refine⟨U,τ,h,S,Rh,dg o λd h1 U1 H1 v g1 r1 hr1 o1=>?_⟩;refine⟨U1,τ,h1,S.mono g1,hr1,dg o1 λd2 h2 U2 H2 u g2 r2 hr2 o2=>?_⟩;refine hs E U2 H2 h2 v u d d2 _ (r1.mono g2) r2 hr2 (dg o2 λd3 h3 U3 H3 z g3 r3 hr3 o3=>?_)
 cases r3 with
 |bl k =>
  refine⟨k,rfl,?_⟩
  cases k with
  |true =>
   rw[av rfl];refine⟨U3,τ,h3,((S.mono g1).mono g2).mono g3,hr3,dg o3 λd4 h4 U4 H4 w g4 r4 hr4 o4=>?_⟩;exact hs' E U4 H4 h4 u w d2 d4 Q ((r2.mono g3).mono g4) r4 hr4 o4
  |false =>
   rw[aO aU];exact o3 U3 H3 (.bl false) (.refl _ _) (.bl false) hr3
 |_=>exact o3.elim
theorem aj9(ho:OpR X (compareOp op) r)(ho':OpR X (compareOp op') r')(hs:a01 X.K g r)(hs':a01 X.K g' r')(ha:ME X E a fa)(hb:ME X E b fb)(hc:ME X E c fc)
  (hm:lastMarks [op,op'] [b,c]=false:=by with_unfolding_all rfl):ME X E (.Compare a [op,op'] [b,c] pos) (sCh g g' fa fb fc) :=
 PE.weak (aip ho ho' ha hb hc hm) λσ H Q q=>am8 hs hs' q
theorem aja(ho:OpR X (compareOp op) r)(ho':OpR X (compareOp op') r')(hs:a01 X.K g r)(hs':a01 X.K g' r')(ha:ME X E a fa)(hb:ME X E b fb)(hc:ME X E c fc)
  (hm:lastMarks [op,op'] [b,c]=false:=by with_unfolding_all rfl):MT X E (.Compare a [op,op'] [b,c] pos) (sT (sCh g g' fa fb fc)) :=
 PT.weak (aiq ho ho' ha hb hc hm) λσ H Q q=>aal (λ_ _ _=>am8 hs hs') q
noncomputable def tru(d:D)(h:Hd):R Bool:=match d with
 |.non=>.ok false h
 |.bl b=>.ok b h
 |.int i=>.ok (i != 0) h
 |.str x=>if x.length<=LINE then .ok ((x.length:Int) != 0) h else .no
 |.tup xs=>.ok (!xs.isEmpty) h
 |.rol xs=>.ok (!xs.isEmpty) h
 |.ref i=>match h[i]? with
  |some (.lst xs)=>.ok (!xs.isEmpty) h
  |some (.dK kvs)=>.ok (!kvs.isEmpty) h
  |_=>.no
 |_=>.no
theorem Reps.emp{K:Fg}{U:List Addr}{H:Hp}{vs:List V}{ds:List D}(r:Reps K U H vs ds):vs.isEmpty=ds.isEmpty:=by cases r<;>rfl
theorem KRep.emp{κ:Type}{K:Fg}{U:List Addr}{H:Hp}{us:List (κ×V)}{kvs:List (κ×D)}(r:KRep K U H us kvs):us.isEmpty=kvs.isEmpty:=by
 have:=ah List.length r.1
 cases us<;>cases kvs<;>simp at this ⊢
theorem aod{K:Fg}{U:List Addr}{H:Hp}{h:Hd}{x:V}{d:D}{Q:Bool->Hp->Prop}(r:Rep K U H x d)(hr:HRep K U H h)(o:out K E am7 U H (tru d h) Q):∃k,axp K x H k/\Q k H:=by
 cases r with
 |non=>exact⟨false,rfl,o U H _ (.refl _ _) rfl hr⟩
 |bl b=>exact⟨b,rfl,o U H _ (.refl _ _) rfl hr⟩
 |int i=>exact⟨_,rfl,o U H _ (.refl _ _) rfl hr⟩
 |str x =>
  by_cases hl:x.length<=LINE
  .simp only[tru,av hl]at o;exact⟨_,⟨ll hl,rfl⟩,o U H _ (.refl _ _) rfl hr⟩
  .simp only[tru,aO hl]at o;exact o.elim
 |ty n=>exact o.elim
 |rod _ _ _=>exact o.elim
 |scr _ _=>exact o.elim
 |rdT _ _ _=>exact o.elim
 |exc _ _ _=>exact o.elim
 |ins _ _ _ _=>exact o.elim
 |tup e rs=>exact⟨_,.inr (.inl ⟨_,SqT.of e,rfl⟩),by rw[rs.emp];exact o U H _ (.refl _ _) rfl hr⟩
 |rol e rs=>exact⟨_,.inl ⟨_,e.l,rfl⟩,by rw[rs.emp];exact o U H _ (.refl _ _) rfl hr⟩
 |@ref a i e =>
  obtain⟨ob,h1,h2⟩:=hr.at e;simp only[tru,h1]at o
  cases ob with
  |lst xs =>
   obtain⟨vs,h3,h4⟩:=h2;exact⟨_,.inl ⟨_,SqL.of h3,rfl⟩,by rw[h4.emp];exact o U H _ (.refl _ _) rfl hr⟩
  |dK kvs =>
   obtain⟨us,h3,h4⟩:=h2;exact⟨_,.inr (.inr ⟨_,h3,rfl⟩),by rw[h4.emp];exact o U H _ (.refl _ _) rfl hr⟩
  |dT kvs=>exact o.elim
  |ins _ _=>exact o.elim
  |dN _=>exact o.elim
def a0b(f:SE):ST:=λτ h=>(f τ h).bind tru
theorem asz(ha:ME X E a fa)(he:∀whole,isTrue a X.env whole=(do let v <-whole;standAt a.pos;holding [v] (truthy v)):=by intro _;rfl):MT X E a (a0b fa):=by
 refine PT.weak (ais ha he) ?_
 rintro σ H Q ⟨U,τ,h,S,Rh,o⟩
 exact⟨U,τ,h,S,Rh,dg o λd h1 U1 H1 v g1 r1 hr1 o1=>aod r1 hr1 o1⟩
noncomputable def yp(f g:ST):ST:=λτ h=>(f τ h).bind λb h1=>if b=true then g τ h1 else .ok false h1
noncomputable def sOr(f g:ST):ST:=λτ h=>(f τ h).bind λb h1=>if b=true then .ok true h1 else g τ h1
noncomputable def a0g(f:ST):ST:=λτ h=>(f τ h).bind λb h1=>.ok (!b) h1
variable{ga gb:ST}
theorem aoe(ha:MT X E a ga):MW X E (.BoolOp .And [a] pos) ga:=anp ha
theorem at3(ha:MT X E a ga):MW X E (.BoolOp .Or [a] pos) ga:=ard ha
theorem at4{aG:List Expr}(ha:MT X E a ga)(hb:MW X E (.BoolOp .And (b::aG) pos) gb):MW X E (.BoolOp .And (a::b::aG) pos) (yp ga gb):=by
 refine PW.weak (arf ha hb) ?_
 rintro σ H Q ⟨U,τ,h,S,Rh,o⟩
 refine⟨U,τ,h,S,Rh,dg o λd h1 U1 H1 v g1 r1 hr1 o1=>?_⟩;cases r1
 cases d with
 |true=>exact⟨U1,τ,h1,S.mono g1,hr1,o1⟩
 |false=>exact o1 U1 H1 false (.refl _ _) rfl hr1
theorem ay5{aG:List Expr}(ha:MT X E a ga)(hb:MW X E (.BoolOp .Or (b::aG) pos) gb):MW X E (.BoolOp .Or (a::b::aG) pos) (sOr ga gb):=by
 refine PW.weak (axa ha hb) ?_
 rintro σ H Q ⟨U,τ,h,S,Rh,o⟩
 refine⟨U,τ,h,S,Rh,dg o λd h1 U1 H1 v g1 r1 hr1 o1=>?_⟩;cases r1
 cases d with
 |true=>exact o1 U1 H1 true (.refl _ _) rfl hr1
 |false=>exact⟨U1,τ,h1,S.mono g1,hr1,o1⟩
theorem at5(ha:MT X E a ga):MT X E (.UnaryOp .Not a pos) (a0g ga):=by
 refine PT.weak (arh ha) ?_
 rintro σ H Q ⟨U,τ,h,S,Rh,o⟩
 refine⟨U,τ,h,S,Rh,dg o λd h1 U1 H1 v g1 r1 hr1 o1=>?_⟩;cases r1
 exact o1 U1 H1 _ (.refl _ _) rfl hr1
noncomputable def qx(f g:SE):SE:=λτ h=>(f τ h).bind λd h1=>match d with|.bl true=>g τ h1|.bl false=>.ok (.bl false) h1|_=>.no
noncomputable def awu(f g:SE):SE:=λτ h=>(f τ h).bind λd h1=>match d with|.bl true=>.ok (.bl true) h1|.bl false=>g τ h1|_=>.no
noncomputable def a91(f:SE):SE:=λτ h=>(f τ h).bind λd h1=>match d with|.bl b=>.ok (.bl (!b)) h1|_=>.no
theorem at6{op}(ha:ME X E a fa):ME X E (.BoolOp op [a] pos) fa:=ari ha
theorem at7{aG:List Expr}(ha:ME X E a fa)(hb:ME X E (.BoolOp .And (b::aG) pos) fb):ME X E (.BoolOp .And (a::b::aG) pos) (qx fa fb):=by
 refine PE.weak (arj ha hb) ?_
 rintro σ H Q ⟨U,τ,h,S,Rh,o⟩
 refine⟨U,τ,h,S,Rh,dg o λd h1 U1 H1 v g1 r1 hr1 o1=>?_⟩
 cases r1 with
 |bl k =>
  refine⟨k,rfl,?_⟩
  cases k with
  |true=>exact⟨U1,τ,h1,S.mono g1,hr1,o1⟩
  |false=>exact o1 U1 H1 _ (.refl _ _) (.bl _) hr1
 |_=>exact o1.elim
theorem at8(ha:ME X E a fa):ME X E (.UnaryOp .Not a pos) (a91 fa):=by
 refine PE.weak (ark ha) ?_
 rintro σ H Q ⟨U,τ,h,S,Rh,o⟩
 refine⟨U,τ,h,S,Rh,dg o λd h1 U1 H1 v g1 r1 hr1 o1=>?_⟩
 cases r1 with
 |bl k=>exact⟨k,rfl,o1 U1 H1 _ (.refl _ _) (.bl _) hr1⟩
 |_=>exact o1.elim
noncomputable def afn(c:ST)(f g:SE):SE:=λτ h=>(c τ h).bind λb h1=>if b=true then f τ h1 else g τ h1
theorem at9(hc:MT X E c ga)(ha:ME X E a fa)(hb:ME X E b fb):ME X E (.IfExp c a b pos) (afn ga fa fb):=by
 refine PE.weak (aih hc ha hb) ?_
 rintro σ H Q ⟨U,τ,h,S,Rh,o⟩
 refine⟨U,τ,h,S,Rh,dg o λd h1 U1 H1 v g1 r1 hr1 o1=>?_⟩;cases r1
 cases d with
 |true=>exact⟨U1,τ,h1,S.mono g1,hr1,o1⟩
 |false=>exact⟨U1,τ,h1,S.mono g1,hr1,o1⟩
def aq:SA:=λ_ h=>.ok [] h
noncomputable def aj(f:SE)(g:SA):SA:=λτ h=>(f τ h).bind λd h1=>(g τ h1).bind λds h2=>.ok (d::ds) h2
variable{es:List Expr}{ka:SA}
theorem a92:MA X E [] aq:=PA.weak a4s λσ H Q ⟨U,τ,h,S,Rh,o⟩=>o U H [] (.refl _ _) .nil Rh
theorem a1f(ha:ME X E e fa)(hr:MA X E es ka)(hs:starEach (e::es) X.env=(false,eval e X.env)::starEach es X.env:=by rfl):MA X E (e::es) (aj fa ka):=by
 refine PA.weak (uo ha hr hs) ?_
 rintro σ H Q ⟨U,τ,h,S,Rh,o⟩
 refine⟨U,τ,h,S,Rh,dg o λd h1 U1 H1 v g1 r1 hr1 o1=>?_⟩;refine⟨U1,τ,h1,S.mono g1,hr1,dg o1 λd2 h2 U2 H2 u g2 r2 hr2 o2=>?_⟩;exact o2 U2 H2 _ (.refl _ _) (.cons (r1.mono g2) r2) hr2
noncomputable def dj(ds:List D)(h:Hd):R D:=if ds.length<=LINE then .ok (.tup ds) h else .no
noncomputable def ye(ds:List D)(h:Hd):R D:=if ds.length<=LINE then .ok (.ref h.length) (h++[.lst ds]) else .no
noncomputable def sA(g:List D->Hd->R D)(k:SA):SE:=λτ h=>(k τ h).bind g
theorem a0r(r:Reps K U H vs ds)(hr:HRep K U H h)(o:out K E (ur K) U H (.ok (.tup ds) h) Q):∀p,H p=none->Q (.ref p) (upd H p (.tup vs)):=λp hp =>
 o U _ _ (a1e hp _) (.tup qe (r.mono (a1e hp _))) (hr.aside hp _)
theorem vq(r:Reps K U H vs ds)(hr:HRep K U H h)(o:out K E (ur K) U H (.ok (.ref h.length) (h++[.lst ds])) Q):∀p,H p=none->Q (.ref p) (upd H p (.lst vs)):=λp hp =>
 o (U++[p]) _ _ (abw hp _) (.ref (by rw[aN (by rw[hr.len];exact a9 _),hr.len];simp)) (hr.add hp ⟨_,qe,r.mono (abw hp _)⟩)
theorem aam{K:Fg}{U:List Addr}{H:Hp}{h:Hd}{i:Nat}{a:Addr}{vs:List V}{ds:List D}{d:D}{v:V}{Q:VK}(r:Reps K U H vs ds)(hr:HRep K U H h)(hi:U[i]? = some a)(rd:Rep K U H v d)(o:out K E (ur K) U H (.ok d (h.set i (.lst ds))) Q):Q v (upd H a (.lst vs)) :=
 o U _ _ (a6x hr hi _) (rd.mono (a6x hr hi _)) (hr.put hi ⟨_,qe,r.mono (a6x hr hi _)⟩)
theorem aby{x1}(h:MA X E es ka):ME X E (.Tuple es x1 pos) (sA dj ka):=by
 refine PE.weak (alx h) ?_
 rintro σ H Q ⟨U,τ,h,S,Rh,o⟩
 refine⟨U,τ,h,S,Rh,dg o λd h1 U1 H1 v g1 r1 hr1 o1=>?_⟩;unfold dj at o1
 split at o1
 .rename_i hl;exact⟨ll (by rw[r1.len];exact hl),a0r r1 hr1 o1⟩
 .exact o1.elim
theorem ata(h:MA X E es ka):ME X E (.List es pos) (sA ye ka):=by
 refine PE.weak (as8 h) ?_
 rintro σ H Q ⟨U,τ,h,S,Rh,o⟩
 refine⟨U,τ,h,S,Rh,dg o λd h1 U1 H1 v g1 r1 hr1 o1=>?_⟩;unfold ye at o1
 split at o1
 .rename_i hl;exact⟨ll (by rw[r1.len];exact hl),vq r1 hr1 o1⟩
 .exact o1.elim
theorem a93{x:Str}{p:Pos}{id:String}{r:List V->Hp->VK->Prop}{g:List D->Hd->R D}(hc:CallR X (.builtin id) r)(hs:abx X.K g r)(hg:Gl X x)(hm:X.mg x=none)(hv:bootBuiltins x=some (.builtin id))(ha:MA X E (e::es) ka)(hn:x ≠ "__name__":=by decide)(hdb:(x == ("__debug__" : Str))=false:=by decide)
  (he:starEach (e::es) X.env=(false,eval e X.env)::starEach es X.env:=by rfl) (hpl:(backTo pos (starEach es X.env)).any (·.1)=false:=by rfl):ME X E (.Call (.Name x p) (e::es) [] pos) (sA g ka):=by
 refine PE.weak (a3i hc hg hm hv ha hn hdb he hpl) ?_
 rintro σ H Q ⟨U,τ,h,S,Rh,o⟩
 exact⟨U,τ,h,S,Rh,dg o λd h1 U1 H1 v g1 r1 hr1 o1=>hs E U1 H1 h1 v d Q r1 hr1 o1⟩
theorem aan{x:Str}{p:Pos}{id:String}{r:List V->Hp->VK->Prop}{g:List D->Hd->R D}(hc:CallR X (.type id) r)(hs:abx X.K g r)(hg:Gl X x)(hm:X.mg x=none)(hv:bootBuiltins x=some (.type id))(ha:MA X E (e::es) ka)(hn:x ≠ "__name__":=by decide)(hdb:(x == ("__debug__" : Str))=false:=by decide)
  (he:starEach (e::es) X.env=(false,eval e X.env)::starEach es X.env:=by rfl) (hpl:(backTo pos (starEach es X.env)).any (·.1)=false:=by rfl):ME X E (.Call (.Name x p) (e::es) [] pos) (sA g ka):=by
 refine PE.weak (a8k hc hg hm hv ha hn hdb he hpl) ?_
 rintro σ H Q ⟨U,τ,h,S,Rh,o⟩
 exact⟨U,τ,h,S,Rh,dg o λd h1 U1 H1 v g1 r1 hr1 o1=>hs E U1 H1 h1 v d Q r1 hr1 o1⟩
end
noncomputable def gh(f g:SS):SS:=λτ h=>match f τ h with|.nx τ1 h1=>g τ1 h1|r=>r
def sNx:SS:=λτ h=>.nx τ h
noncomputable def jf(f:SE):SS:=λτ h=>(f τ h).fl λd h1=>.rt d h1
noncomputable def a4g(f:SE):SS:=λτ h=>(f τ h).fl λ_ h1=>.nx τ h1
noncomputable def sIf(c:ST)(f g:SS):SS:=λτ h=>(c τ h).fl λb h1=>if b=true then f τ h1 else g τ h1
noncomputable def j5(i:Nat)(f:SE):SS:=λτ h=>(f τ h).fl λd h1=>.nx (τ.set i (some d)) h1
noncomputable def abz(i:Nat)(g:D->D->Hd->R D)(f:SE):SS:=λτ h=>match τ[i]? with
 |some (some x)=>(f τ h).fl λy h1=>(g x y h1).fl λz h2=>.nx (τ.set i (some z)) h2
 |_=>.no
section
variable{X:Cx}{E:XD}{e o:Expr}{es:List Expr}{fa fb fc:SE}{ga:ST}{st:Stmt}{sts a b:List Stmt}{f g:SS}{pos:Pos}
theorem aog:MSs X E [] sNx:=PSs.weak anq λN σ H ⟨U,τ,h,S,Rh,o⟩=>o U H σ (.refl _ _) S Rh
theorem atb(q:a5t K E (gh f g) N σ H):a5t K E f {N with nx:=a5t K E g N} σ H:=by
 obtain⟨U,τ,h,S,Rh,o⟩:=q;refine⟨U,τ,h,S,Rh,?_⟩;unfold gh at o
 cases hf:f τ h with
 |nx τ1 h1 =>
  rw[hf]at o;exact λU1 H1 σ1 g1 S1 R1=>⟨U1,τ1,h1,S1,R1,sr o g1⟩
 |_=>rw[hf]at o;exact o
theorem a2b(h1:MS X E st f)(h2:MSs X E sts g):MSs X E (st::sts) (gh f g):=PSs.weak (aii h1 h2) λN σ H q=>atb q
theorem a7n(h1:MS X E st f):MSs X E [st] f:=anr h1
theorem am9(he:ME X E e fa):MS X E (.Return (some e) pos) (jf fa):=by
 refine PS.weak (arl he) ?_
 rintro N σ H ⟨U,τ,h,S,Rh,o⟩
 exact⟨U,τ,h,S,Rh,ut o λd h1 U1 H1 v g1 r1 hr1 o1=>o1 U1 H1 v (.refl _ _) r1 hr1⟩
theorem aoh(he:ME X E e fa)(hs:swapsWith e none pos.line X.env=pure false:=by rfl):MS X E (.Expr e pos) (a4g fa):=by
 refine PS.weak (ant he hs) ?_
 rintro N σ H ⟨U,τ,h,S,Rh,o⟩
 exact⟨U,τ,h,S,Rh,ut o λd h1 U1 H1 v g1 r1 hr1 o1=>o1 U1 H1 σ (.refl _ _) (S.mono g1) hr1⟩
theorem ay6(hc:MT X E c ga)(ha:MSs X E a f)(hb:MSs X E b g):MS X E (.If c a b pos) (sIf ga f g):=by
 refine PS.weak (axf hc ha hb) ?_
 rintro N σ H ⟨U,τ,h,S,Rh,o⟩
 refine⟨U,τ,h,S,Rh,ut o λd h1 U1 H1 v g1 r1 hr1 o1=>?_⟩;cases r1
 cases d with
 |true=>exact⟨U1,τ,h1,S.mono g1,hr1,o1⟩
 |false=>exact⟨U1,τ,h1,S.mono g1,hr1,o1⟩
theorem atc(hN:X.N.Nodup)(hi:X.N[i]? = some x)(hx:Loc X.env.scope x)(he:ME X E e fa)(hs:swapsWith e (some (.Name x pos')) pos.line X.env=pure false:=by rfl)(hf:Hf X x:=by with_unfolding_all first|exact .inl rfl|exact .inr rfl|assumption) :
  MS X E (.Assign [.Name x pos'] e pos) (j5 i fa):=by
 refine PS.weak (arp hN hi hx he hs hf) ?_
 rintro N σ H ⟨U,τ,h,S,Rh,o⟩
 exact⟨U,τ,h,S,Rh,ut o λd h1 U1 H1 v g1 r1 hr1 o1=>o1 U1 H1 _ (.refl _ _) ((S.mono g1).set r1 i) hr1⟩
theorem ama(hN:X.N.Nodup)(hi:X.N[i]? = some x)(hx:Loc X.env.scope x)(ho:OpR X (inplaceOp op) r)(hs:a01 X.K gg r)(he:ME X E e fa)(hf:Hf X x:=by with_unfolding_all first|exact .inl rfl|exact .inr rfl|assumption) :
  MS X E (.AugAssign (.Name x pos') op e pos) (abz i gg fa):=by
 refine PS.weak (arq hN hi hx he ho hf) ?_
 rintro N σ H ⟨U,τ,h,S,Rh,o⟩
 unfold abz at o
 split at o
 .rename_i d ed;obtain⟨v,h1,h2⟩:=S.val i d ed;refine⟨v,h1,U,τ,h,S,Rh,ut o λd2 h3 U1 H1 u g1 r1 hr1 o1=>?_⟩;refine hs E U1 H1 h3 v u d d2 _ (h2.mono g1) r1 hr1 (ut o1 λd3 h4 U2 H2 z g2 r2 hr2 o2=>?_);exact o2 U2 H2 _ (.refl _ _) (((S.mono g1).mono g2).set r2 i) hr2
 .exact o.elim
noncomputable def put(o k v:D)(h:Hd):Option Hd:=match o,k with
 |.ref i,.int j=>match h[i]? with
  |some (.lst xs)=>match ixN xs.length j with
   |some m=>some (h.set i (.lst (xs.set m v)))
   |none=>none
  |_=>none
 |_,_=>none
theorem afo{K:Fg}{U:List Addr}{H:Hp}{h h':Hd}{o k v:V}{od kd vd:D}{Q:Hp->Prop}(r1:Rep K U H o od)(r2:Rep K U H k kd)(r3:Rep K U H v vd)(hr:HRep K U H h)(e:put od kd vd h=some h')
  (q:∀H',Gr U H U H'->HRep K U H' h'->Q H'):ash o k v H Q:=by
 cases r1 with
 |@ref a i ha =>
  cases r2 with
  |int j =>
   obtain⟨ob,h1,h2⟩:=hr.at ha
   cases ob with
   |lst xs =>
    obtain⟨vs,h3,h4⟩:=h2;simp only[put,h1]at e
    cases hm:ixN xs.length j with
    |none=>rw[hm]at e;cases e
    |some m =>
     rw[hm]at e;cases e
     exact⟨a,vs,j,m,rfl,rfl,h3,by rw[h4.len];exact hm,q _ (a6x hr ha _) (hr.put ha ⟨_,qe,(h4.set r3 m).mono (a6x hr ha _)⟩)⟩
   |dK _=>simp only[put,h1]at e;cases e
   |dT _=>simp only[put,h1]at e;cases e
   |ins _ _=>simp only[put,h1]at e;cases e
   |dN _=>simp only[put,h1]at e;cases e
  |_=>cases e
 |_=>cases e
noncomputable def adp(fe fo fi:SE):SS:=λτ h=>(fe τ h).fl λv h1=>(fo τ h1).fl λo h2=>(fi τ h2).fl λk h3=>match put o k v h3 with|some h4=>.nx τ h4|none=>.no
theorem atd(he:ME X E e fa)(ho:ME X E o fb)(hi:ME X E i fc)
  (hs:swapsWithSole [.Subscript o i pos'] e pos.line X.env=pure false:=by rfl) (hw:swappedStores [.Subscript o i pos'] e X.env=pure none:=by rfl)
  (h1:(assignEach [.Subscript o i pos'] X.env).map (·.2)=[assign (.Subscript o i pos') X.env]:=by rfl)
  (ha:∀v,assign (.Subscript o i pos') X.env v=(do
   let ov <-holding [v] (eval o X.env)
   let iv <-holding [v,ov] (eval i X.env)
   standAt pos'
   holding [v,ov,iv] (setItem ov iv v)
   release [v,ov,iv] []):=by intro _;rfl):MS X E (.Assign [.Subscript o i pos'] e pos) (adp fa fb fc):=by
 refine PS.weak (alw he (aro ho hi set_list ha) hs hw h1) ?_
 rintro N σ H ⟨U,τ,h,S,Rh,oo⟩
 refine⟨U,τ,h,S,Rh,ut oo λd h1 U1 H1 v g1 r1 hr1 o1=>?_⟩;refine⟨U1,τ,h1,S.mono g1,hr1,ut o1 λd2 h2 U2 H2 u g2 r2 hr2 o2=>?_⟩;refine⟨U2,τ,h2,(S.mono g1).mono g2,hr2,ut o2 λd3 h3 U3 H3 w g3 r3 hr3 o3=>?_⟩
 cases hp:put d2 d3 d h3 with
 |none=>rw[hp]at o3;exact o3.elim
 |some h4 =>
  rw[hp]at o3;exact afo (r2.mono g3) r3 ((r1.mono g2).mono g3) hr3 hp λH' g4 hr4=>o3 U3 H' σ g4 ((((S.mono g1).mono g2).mono g3).mono g4) hr4
noncomputable def sWh(c:ST)(f:SS):Nat->SS
 |0,_,_=>.no
 |n+1,τ,h=>(c τ h).fl λb h1=>if b=true then (match f τ h1 with|.nx τ2 h2=>sWh c f n τ2 h2|.ct τ2 h2=>sWh c f n τ2 h2|.bk τ2 h2=>.nx τ2 h2|r=>r) else .nx τ h1
theorem ajb(n:Nat)(hp:PassesOwn (model X.prog X.w) X.A X.env X.xe)(hc:MT X E c ga)(hb:MSs X E a f):MS X E (.While c a [] pos) (sWh ga f n):=by
 refine PS.weak (aik hp hc hb) λN σ H q=>?_;refine⟨λm σ H=>a5t X.K E (sWh ga f m) N σ H,⟨n,q⟩,?_⟩
 rintro m σ1 H1 ⟨U,τ,h,S,Rh,o⟩
 cases m with
 |zero=>exact o.elim
 |succ m =>
  refine⟨U,τ,h,S,Rh,ut o λd h1 U1 H1 v g1 r1 hr1 o1=>?_⟩;cases r1
  cases d with
  |false=>exact o1 U1 H1 _ (.refl _ _) (S.mono g1) hr1
  |true =>
   refine⟨λσ' H'=>a5t X.K E (sWh ga f m) N σ' H',λσ' H' q=>⟨m,Nat.lt_succ_self m,q⟩,U1,τ,h1,S.mono g1,hr1,?_⟩;rw[av rfl]at o1
   cases hf:f τ h1 with
   |nx τ2 h2=>rw[hf]at o1;exact λU2 H2 σ2 g2 S2 R2=>⟨U2,τ2,h2,S2,R2,sr o1 g2⟩
   |ct τ2 h2=>rw[hf]at o1;exact λU2 H2 σ2 g2 S2 R2=>⟨U2,τ2,h2,S2,R2,sr o1 g2⟩
   |bk τ2 h2=>rw[hf]at o1;exact o1
   |rt d h2=>rw[hf]at o1;exact o1
   |ex c h2=>rw[hf]at o1;exact o1
   |no=>rw[hf]at o1;exact o1.elim
end
abbrev SG:=D->Sd->Hd->Fl
noncomputable def aoi(K:Fg)(E:XD)(g:SG):TG:=λv σ H Q=>∃U τ h d,Rep K U H v d/\SRep K U H σ τ/\HRep K U H h/\ai5 K E U H (g d τ h) {nx:=Q,rt:=λ_ _=>False}
abbrev MG(X:Cx)(E:XD)(tg:Expr)(g:SG):Prop:=PG X tg (aoi X.K E g)
abbrev SGs:=List D->Sd->Hd->Fl
noncomputable def afp(K:Fg)(E:XD)(g:SGs):TGs:=λvs σ H Q=>∃U τ h ds,Reps K U H vs ds/\SRep K U H σ τ/\HRep K U H h/\ai5 K E U H (g ds τ h) {nx:=Q,rt:=λ_ _=>False}
abbrev MGs(X:Cx)(E:XD)(tg:List Expr)(g:SGs):Prop:=PGs X tg (afp X.K E g)
theorem PG.weak(h:PG X e t)(i:∀v σ H Q,t' v σ H Q->t v σ H Q):PG X e t':=λaA s σ H v u Q I r q=>h aA s σ H v u Q I r (i _ _ _ _ q)
theorem PGs.weak(h:PGs X e t)(i:∀v σ H Q,t' v σ H Q->t v σ H Q):PGs X e t':=λaA s σ H v u Q I r q=>h aA s σ H v u Q I r (i _ _ _ _ q)
noncomputable def kN(i:Nat):SG:=λd τ h=>.nx (τ.set i (some d)) h
noncomputable def ajc:SGs:=λds τ h=>match ds with|[]=>.nx τ h|_=>.no
noncomputable def a2s(g:SG)(k:SGs):SGs:=λds τ h=>match ds with|d::r=>(match g d τ h with|.nx τ1 h1=>k r τ1 h1|_=>.no)|[]=>.no
noncomputable def ai6(n:Nat)(k:SGs):SG:=λd τ h=>match d with|.tup ds=>if ds.length=n then k ds τ h else .no|_=>.no
section
variable{X:Cx}{E:XD}{e:Expr}{es:List Expr}{fa:SE}{pos:Pos}{g:SG}{ks:SGs}
theorem afq(hN:X.N.Nodup)(hi:X.N[i]? = some x)(hx:Loc X.env.scope x)(hf:Hf X x:=by with_unfolding_all first|exact .inl rfl|exact .inr rfl|assumption):MG X E (.Name x pos) (kN i) :=
 PG.weak (aa8 hN hi hx hf) λv σ H Q ⟨U,τ,h,d,r,S,Rh,o⟩=>o U H _ (.refl _ _) (S.set r i) Rh
theorem aoj:MGs X E [] ajc:=by
 refine PGs.weak aa9 ?_
 rintro vs σ H Q ⟨U,τ,h,ds,r,S,Rh,o⟩
 cases r with
 |nil=>exact⟨rfl,o U H σ (.refl _ _) S Rh⟩
 |cons _ _=>exact o.elim
theorem ajd(q:afp K E (a2s g ks) vs σ H Q):aij (aoi K E g) (afp K E ks) vs σ H Q:=by
 obtain⟨U,τ,h,ds,r,S,Rh,o⟩:=q
 cases r with
 |nil=>exact o.elim
 |@cons v d vs ds r rs =>
  refine⟨v,vs,rfl,U,τ,h,d,r,S,Rh,?_⟩;simp only[a2s]at o
  cases hg:g d τ h with
  |nx τ1 h1 =>
   rw[hg]at o;exact λU1 H1 σ1 g1 S1 R1=>⟨U1,τ1,h1,ds,rs.mono g1,S1,R1,sr o g1⟩
  |_=>rw[hg]at o;exact o.elim
theorem ate(hc:X.calm=true)(h:MGs X E es ks)(hn:(assignEach es X.env).length=n:=by rfl)(hst:(assignEach es X.env).findIdx? (·.1)=none:=by rfl):MG X E (.Tuple es k pos) (ai6 n ks):=by
 refine PG.weak (aej hc h hn hst) ?_
 rintro v σ H Q ⟨U,τ,h,d,r,S,Rh,o⟩
 cases r with
 |@tup a vs xs e rs =>
  simp only[ai6]at o
  by_cases hl:xs.length=n
  .rw[av hl]at o;exact⟨a,vs,rfl,SqT.of e,by rw[rs.len];exact hl,U,τ,h,xs,rs,S,Rh,o⟩
  .rw[aO hl]at o;exact o.elim
 |_=>exact o.elim
noncomputable def afr(f:SE)(g:SG):SS:=λτ h=>(f τ h).fl λd h1=>match g d τ h1 with|.nx τ2 h2=>.nx τ2 h2|_=>.no
theorem atf(he:ME X E e fa)(hg:MG X E tg g)(hs:swapsWithSole [tg] e pos.line X.env=pure false:=by rfl)(hw:swappedStores [tg] e X.env=pure none:=by rfl)
  (h1:(assignEach [tg] X.env).map (·.2)=[assign tg X.env]:=by rfl):MS X E (.Assign [tg] e pos) (afr fa g):=by
 refine PS.weak (alw he hg hs hw h1) ?_
 rintro N σ H ⟨U,τ,h,S,Rh,o⟩
 refine⟨U,τ,h,S,Rh,ut o λd h1 U1 H1 v g1 r1 hr1 o1=>⟨U1,τ,h1,d,r1,S.mono g1,hr1,?_⟩⟩
 cases hg:g d τ h1 with
 |nx τ1 h1=>rw[hg]at o1;exact o1
 |_=>rw[hg]at o1;exact o1.elim
end
structure Itm where
 xs:List D
 ck:Hd->Prop
def aok(K:Fg)(U0:List Addr)(H0:Hp)(J:It)(it:Itm):Prop:=∀U H h,Gr U0 H0 U H->HRep K U H h->it.ck h->
 (∀(i:Nat) (d:D),it.xs[i]? = some d->J.go i H/\∀x H',J.yld i H x H'->Gr U H U H'/\Rep K U H' x d/\HRep K U H' h)/\J.stop it.xs.length H
abbrev ay7(K:Fg):List Addr->Hp->It->Itm->Prop:=λU H J it=>aok K U H J it
abbrev SI:=Sd->Hd->R Itm
abbrev MI(X:Cx)(E:XD)(tg aF:Expr)(f:SI):Prop:=PI X tg aF (lift X.K E (ay7 X.K) f)
noncomputable def a04(x:Str):List D:=x.cps.toList.map λc=>D.str ⟨#[c]⟩
noncomputable def aje(d:D)(h:Hd):R Itm:=match d with
 |.tup xs=>.ok ⟨xs,λ_=>True⟩ h
 |.rol xs=>.ok ⟨xs,λ_=>True⟩ h
 |.str x=>.ok ⟨a04 x,λ_=>True⟩ h
 |.ref i=>match h[i]? with
  |some (.lst xs)=>.ok ⟨xs,λh=>h[i]? = some (.lst xs)⟩ h
  |_=>.no
 |_=>.no
def sIt(f:SE):SI:=λτ h=>(f τ h).bind aje
theorem amb(hl:∀U H h,Gr U0 H0 U H->HRep K U H h->ck h->∃vs,SqL K H a vs/\Reps K U H vs xs):aok K U0 H0 (Itl K a) ⟨xs,ck⟩:=by
 intro U H h g hr c
 obtain⟨vs,h1,h2⟩:=hl U H h g hr c;refine⟨λi d e=>?_,⟨vs,h1,by rw[h2.len];exact a9 _⟩⟩
 obtain⟨v,e1,r⟩:=h2.get e;refine⟨⟨vs,v,h1,e1⟩,λx H' y=>?_⟩;obtain⟨rfl,y⟩:=y;have:=y vs h1;rw[e1]at this;cases this
 exact⟨.refl _ _,r,hr⟩
theorem atg(hl:ME X E l f):MI X E tg l (sIt f):=by
 rintro aA s σ H Rr I ⟨U,τ,h,S,Rh,o⟩
 unfold sIt at o
 cases hf:f τ h with
 |no=>rw[hf]at o;exact o.elim
 |ex c h1 =>
  rw[hf]at o;exact am3 hl aA s σ H Rr I ⟨U,τ,h,S,Rh,by rw[hf];exact o⟩
 |ok d h1 =>
  rw[hf]at o
  cases d with
  |tup xs =>
   refine art hl aA s σ H Rr I ⟨U,τ,h,S,Rh,?_⟩;rw[hf]
   intro U1 H1 v g1 r1 hr1
   cases r1 with
   |@tup a vs _ e rs =>
    refine⟨a,rfl,⟨vs,SqT.of e⟩,o U1 H1 _ g1 ?_ hr1⟩
    intro U2 H2 h2 g2 hr2 _
    have e2:=g2.tup _ _ e;have rs2:=rs.mono g2;refine⟨λi d ed=>?_,⟨vs,SqT.of e2,by rw[rs2.len];exact a9 _⟩⟩
    obtain⟨v,e1,r⟩:=rs2.get ed;refine⟨⟨vs,v,SqT.of e2,e1⟩,λx H' y=>?_⟩;obtain⟨rfl,y⟩:=y;have:=y vs (SqT.of e2);rw[e1]at this;cases this
    exact⟨.refl _ _,r,hr2⟩
  |rol xs =>
   refine ael hl aA s σ H Rr I ⟨U,τ,h,S,Rh,?_⟩;rw[hf]
   intro U1 H1 v g1 r1 hr1
   cases r1 with
   |@rol a vs _ e rs =>
    refine⟨a,rfl,⟨vs,e.l⟩,o U1 H1 _ g1 ?_ hr1⟩;exact amb (λU2 H2 h2 g2 hr2 _=>⟨vs,(e.mono g2).l,rs.mono g2⟩)
  |str x =>
   refine am3 hl aA s σ H Rr I ⟨U,τ,h,S,Rh,?_⟩;rw[hf]
   intro U1 H1 v g1 r1 hr1
   cases r1
   refine⟨x,rfl,o U1 H1 _ g1 ?_ hr1⟩
   intro U2 H2 h2 g2 hr2 _
   refine⟨λi d ed=>?_,by show(a04 x).length=_;simp[a04]⟩
   simp only[a04,bT,aP]at ed;obtain⟨c,ec,rfl⟩:=ed;refine⟨by show i<x.cps.size;have:=(ag.mp ec).1;simpa using this,λy H' q=>?_⟩
   obtain⟨rfl,c',ec',rfl⟩:=q;rw[ec]at ec';cases ec'
   exact⟨.refl _ _,.str _,hr2⟩
  |ref i =>
   simp only[R.bind,aje]at o
   cases ho:h1[i]? with
   |none=>rw[ho]at o;exact o.elim
   |some ob =>
    rw[ho]at o
    cases ob with
    |dK _=>exact o.elim
    |dT _=>exact o.elim
    |ins _ _=>exact o.elim
    |dN _=>exact o.elim
    |lst xs =>
     refine ael hl aA s σ H Rr I ⟨U,τ,h,S,Rh,?_⟩;rw[hf]
     intro U1 H1 v g1 r1 hr1
     cases r1 with
     |@ref a _ e =>
      obtain⟨vs,e1,rs⟩:=hr1.obj i a _ e ho;refine⟨a,rfl,⟨vs,SqL.of e1⟩,o U1 H1 _ g1 ?_ hr1⟩;refine amb (λU2 H2 h2 g2 hr2 c=>?_);obtain⟨us,e3,rs3⟩:=hr2.obj i a _ (g2.at e) c;exact⟨us,SqL.of e3,rs3⟩
  |_=>exact o.elim
noncomputable def rng(lo:Int)(n:Nat):List D:=(List.range n).map λi=>D.int (lo+(i:Nat))
def B62(j:Int):Prop := -(2^62)<=j/\j<2^62
instance (j:Int):Decidable (B62 j):=by unfold B62;exact inferInstance
noncomputable def a02(ds:List D)(h:Hd):R Itm:=match ds with
 |[.int j]=>if B62 j then .ok ⟨rng 0 j.toNat,λ_=>True⟩ h else .no
 |_=>.no
noncomputable def ath(ds:List D)(h:Hd):R Itm:=match ds with
 |[.int i,.int j]=>if B62 i/\B62 j then .ok ⟨rng i (j-i).toNat,λ_=>True⟩ h else .no
 |_=>.no
noncomputable def sRg(g:List D->Hd->R Itm)(k:SA):SI:=λτ h=>(k τ h).bind g
theorem ati(lo:Int)(n:Nat):aok K U0 H0 (Itr lo n) ⟨rng lo n,λ_=>True⟩:=by
 intro U H h g hr _
 refine⟨λi d ed=>?_,by show n<=(rng lo n).length;simp[rng]⟩
 simp only[rng,bT,aP]at ed;obtain⟨j,ej,rfl⟩:=ed;obtain⟨hj,e⟩:=ag.mp ej;simp at e hj;subst e;refine⟨hj,λy H' q=>?_⟩;obtain⟨rfl,rfl⟩:=q;exact⟨.refl _ _,.int _,hr⟩
theorem aol(hg:Gl X "range")(hm:X.mg "range" = none)(ha:MA X E [a] k)(hs:starEach [a] X.env=[(false,eval a X.env)]:=by rfl):MI X E tg (.Call (.Name "range" p) [a] [] pos) (sRg a02 k):=by
 rintro aA s σ H Rr I ⟨U,τ,h,S,Rh,o⟩
 refine aem hg hm ha hs aA s σ H Rr I ⟨U,τ,h,S,Rh,dg o λds h1 U1 H1 vs g1 r1 hr1 o1=>?_⟩;unfold a02 at o1
 split at o1
 .rename_i j
  cases r1 with
  |cons r rs =>
   cases r;cases rs
   by_cases hb:B62 j
   .rw[av hb]at o1;exact⟨j,rfl,hb.1,hb.2,o1 U1 H1 _ (.refl _ _) (ati 0 j.toNat) hr1⟩
   .rw[aO hb]at o1;exact o1.elim
 .exact o1.elim
open Classical in
def forL(ck:Hd->Prop)(g:SG)(b:SS):List D->Sd->Hd->Fl
 |[],τ,h=>if ck h then .nx τ h else .no
 | x::xs,τ,h=>if ck h then (match g x τ h with
   |.nx τ1 h1=>(match b τ1 h1 with
    |.nx τ2 h2=>forL ck g b xs τ2 h2
    |.ct τ2 h2=>forL ck g b xs τ2 h2
    |.bk τ2 h2=>.nx τ2 h2
    |r=>r)
   |_=>.no) else .no
def adq(f:SI)(g:SG)(b:SS):SS:=λτ h=>(f τ h).fl λit h1=>forL it.ck g b it.xs τ h1
theorem aom(ir:aok K U0 H0 J it)(S:SRep K U0 H0 σ0 τ0)(Rh:HRep K U0 H0 h0)(o:ai5 K E U0 H0 (forL it.ck g b it.xs τ0 h0) N) :
  ∃W:Nat->Nat->St->Hp->Prop,(∃m,W 0 m σ0 H0)/\∀i m σ H,W i m σ H->
   (J.stop i H/\N.nx σ H)\/(J.go i H/\∃M:St->Hp->Prop,(∀σ' H',M σ' H'->∃m',m'<m/\W (i+1) m' σ' H')/\∀x H',J.yld i H x H'->aoi K E g x σ H' λσ2 H2=>a5t K E b {N with nx:=M,ct:=M,bk:=N.nx} σ2 H2):=by
 refine⟨λi m σ H=>m=it.xs.length-i/\i<=it.xs.length/\∃U τ h,Gr U0 H0 U H/\SRep K U H σ τ/\HRep K U H h/\ai5 K E U H (forL it.ck g b (it.xs.drop i) τ h) N,⟨_,rfl,bH _,U0,τ0,h0,.refl _ _,S,Rh,o⟩,?_⟩
 rintro i m σ H ⟨rfl,hi,U,τ,h,g0,S,Rh,o⟩
 by_cases hlt:i<it.xs.length
 .rw[de hlt,forL]at o
  by_cases hc:it.ck h
  .rw[av hc]at o;obtain⟨go,yl⟩:=(ir U H h g0 Rh hc).1 i _ (a8 hlt);refine .inr ⟨go,λσ' H'=>it.xs.length-(i+1)<it.xs.length-i/\∃U τ h,Gr U0 H0 U H'/\SRep K U H' σ' τ/\HRep K U H' h/\ai5 K E U H' (forL it.ck g b (it.xs.drop (i+1)) τ h) N,λσ' H' q=>⟨_,q.1,rfl,hlt,q.2⟩,λx H' y=>?_⟩;obtain⟨g1,r1,hr1⟩:=yl x H' y;refine⟨U,τ,h,_,r1,S.mono g1,hr1,?_⟩;have o':=sr o g1
   cases hg:g it.xs[i] τ h with
   |nx τ1 h1 =>
    rw[hg]at o';dsimp only at o'
    intro U2 H2 σ2 g2 S2 R2
    refine⟨U2,τ1,h1,S2,R2,?_⟩;have o2:=sr o' g2;have gg:=(g0.trans g1).trans g2
    cases hb:b τ1 h1 with
    |nx τ2 h2=>rw[hb]at o2;exact λU3 H3 σ3 g3 S3 R3=>⟨by omega,U3,τ2,h2,gg.trans g3,S3,R3,sr o2 g3⟩
    |ct τ2 h2=>rw[hb]at o2;exact λU3 H3 σ3 g3 S3 R3=>⟨by omega,U3,τ2,h2,gg.trans g3,S3,R3,sr o2 g3⟩
    |bk τ2 h2=>rw[hb]at o2;exact o2
    |rt d h2=>rw[hb]at o2;exact o2
    |ex c h2=>rw[hb]at o2;exact o2
    |no=>rw[hb]at o2;exact o2.elim
   |_=>rw[hg]at o';exact o'.elim
  .rw[aO hc]at o;exact o.elim
 .have e:i=it.xs.length:=by omega
  subst e;rw[cA (a9 _),forL]at o
  by_cases hc:it.ck h
  .rw[av hc]at o;exact .inl ⟨(ir U H h g0 Rh hc).2,o U H σ (.refl _ _) S Rh⟩
  .rw[aO hc]at o;exact o.elim
theorem atj{X:Cx}(hp:PassesOwn (model X.prog X.w) X.A X.env X.xe)(hc:X.calm=true)(hi:MI X E tg aF f)(hg:MG X E tg g)(hb:MSs X E body b)(hs:∀x,foldedSetIterable aF X.env x=pure x:=by intro _;rfl):MS X E (.For tg aF body [] pos) (adq f g b):=by
 refine PS.weak (aru hp hc hi hg hb hs) ?_
 rintro N σ H ⟨U,τ,h,S,Rh,o⟩
 exact⟨U,τ,h,S,Rh,ut o λit h1 U1 H1 J g1 r1 hr1 o1=>aom r1 (S.mono g1) hr1 o1⟩
end MI
namespace MI
open L2
theorem R.bind_assoc{α β γ:Type}(r:R α)(f:α->Hd->R β)(g:β->Hd->R γ):(r.bind f).bind g=r.bind λa h=>(f a h).bind g:=by cases r<;>rfl
open Classical in
def mapR(ck:Hd->Prop)(f:D->Hd->R D):List D->Hd->R (List D)
 |[],h=>if ck h then .ok [] h else .no
 |x::xs,h=>if ck h then (f x h).bind λy h1=>(mapR ck f xs h1).bind λys h2=>.ok (y::ys) h2 else .no
open Classical in
def ai7(ck:Hd->Prop)(f:D->Hd->R (Option D)):List D->Hd->R (List D)
 |[],h=>if ck h then .ok [] h else .no
 |x::xs,h=>if ck h then (f x h).bind λy h1=>(ai7 ck f xs h1).bind λys h2=>.ok (y.toList++ys) h2 else .no
noncomputable def frs'(ix:List Nat)(τ:Sd):Sd:=ix.map λi=>(τ[i]?).join
def t1(d:D):Option Sd:=some [some d]
noncomputable def tN(n:Nat)(d:D):Option Sd:=match d with|.tup ds=>if ds.length=n then some (ds.map some) else none|_=>none
noncomputable def a2t(t:D->Option Sd)(fe:SE)(aG:Sd)(x:D)(h:Hd):R D:=match t x with|some ts=>fe (ts++aG) h|none=>.no
noncomputable def aao(t:D->Option Sd)(c:ST)(fe:SE)(aG:Sd)(x:D)(h:Hd):R (Option D):=match t x with
 |some ts=>(c (ts++aG) h).bind λb h1=>if b=true then (fe (ts++aG) h1).bind λy h2=>.ok (some y) h2 else .ok none h1
 |none=>.no
noncomputable def ac0(yd zs:List D)(h:Hd):R D:=.ok (.ref h.length) (h++[.lst (yd++zs)])
theorem atk(r:R D)(m:Hd->R (List D))(yd:List D):(r.bind λy h1=>(m h1).bind λys h2=>.ok (y::ys) h2).bind (ac0 yd)=r.bind λy h1=>(m h1).bind (ac0 (yd++[y])):=by
 cases r with
 |ok y h1 =>
  show((m h1).bind _).bind _=(m h1).bind _
  cases m h1 with
  |ok ys h2=>simp[R.bind,ac0]
  |_=>rfl
 |_=>rfl
theorem ay8(r:R (Option D))(m:Hd->R (List D))(yd:List D):(r.bind λy h1=>(m h1).bind λys h2=>.ok (y.toList++ys) h2).bind (ac0 yd)=r.bind λy h1=>(m h1).bind (ac0 (yd++y.toList)):=by
 cases r with
 |ok y h1 =>
  show((m h1).bind _).bind _=(m h1).bind _
  cases m h1 with
  |ok ys h2=>simp[R.bind,ac0]
  |_=>rfl
 |_=>rfl
def mj(fi:SI)(t:D->Option Sd)(fe:SE)(ix:List Nat):SE:=λτ h=>(fi τ h).bind λit h1=>if it.xs.length<=LINE then (mapR it.ck (a2t t fe (frs' ix τ)) it.xs h1).bind (ac0 []) else .no
def a1g(fi:SI)(t:D->Option Sd)(c:ST)(fe:SE)(ix:List Nat):SE:=λτ h=>(fi τ h).bind λit h1=>if it.xs.length<=LINE then (ai7 it.ck (aao t c fe (frs' ix τ)) it.xs h1).bind (ac0 []) else .no
def aef(K:Fg)(n:Nat)(g:TG)(t:D->Option Sd):Prop:=∀U H v d ts (r:St) (Q:St->Hp->Prop),Rep K U H v d->t d=some ts->(∀us:St,us.length=n->SRep K U H us ts->Q (us++r) H)->g v (List.replicate n none++r) H Q
theorem a7o:SRep K U H [] []:=⟨rfl,λi d e=>by simp at e⟩
theorem a3k(r:Rep K U H v d)(s:SRep K U H σ τ):SRep K U H (some v::σ) (some d::τ):=by
 refine⟨by simp[s.len],λi d' e=>?_⟩
 cases i with
 |zero=>simp at e;subst e;exact⟨v,rfl,r⟩
 |succ i=>simpa using s.val i d' (by simpa using e)
theorem a3l(s:SRep K U H σ τ)(s':SRep K U H σ' τ'):SRep K U H (σ++σ') (τ++τ'):=by
 refine⟨by simp[s.len,s'.len],λi d e=>?_⟩
 by_cases hi:i<τ.length
 .rw[aV hi]at e;rw[aV (by rw[s.len];exact hi)]
  exact s.val i d e
 .rw[aN (by omega)]at e
  rw[aN (by rw[s.len];omega),s.len]
  exact s'.val _ d e
theorem a3m(s:SRep K U H σ τ)(ix:List Nat):SRep K U H (ix.map λi=>(σ[i]?).join) (frs' ix τ):=by
 refine⟨by simp[frs'],λj d e=>?_⟩
 simp only[frs',bT,aP]at e;obtain⟨i,hi,e⟩:=e;have:τ[i]? = some (some d):=by
  cases q:τ[i]? with
  |none=>rw[q]at e;cases e
  |some o=>rw[q]at e;simp at e;rw[e]
 obtain⟨v,h1,h2⟩:=s.val i d this;exact⟨v,by simp[hi,h1],h2⟩
theorem zc:aef K 1 (a6j 0) t1:=λU H v d ts r Q hr e q=>by
 cases e
 exact q [some v] rfl (a3k hr a7o)
theorem atl{α:Type}{xs:List α}(h:xs.length=n+1):∃x ys,xs=x::ys:=by cases xs with|nil=>cases h|cons x ys=>exact⟨x,ys,rfl⟩
theorem amc{vs:List V}{d:D}{ds:List D}(r:Reps K U H vs (d::ds)):∃v us,vs=v::us/\Rep K U H v d/\Reps K U H us ds:=by cases r with|cons r rs=>exact⟨_,_,rfl,r,rs⟩
theorem amd:aef K 2 (L2.dj K 2 (aij (a6j 0) (aij (a6j 1) aze))) (tN 2):=λU H v d ts r Q hr e q=>by
 unfold tN at e
 cases hr with
 |@tup a vs xs h rs =>
  simp only at e
  split at e
  .rename_i hl;cases e
   obtain⟨x1,xs,rfl⟩:=atl hl;obtain⟨x2,xs,rfl⟩:=atl (fY hl);obtain rfl:=dG.mp (fY (fY hl));obtain⟨v1,vs,rfl,r1,rs⟩:=amc rs;obtain⟨v2,vs,rfl,r2,rs⟩:=amc rs;cases rs
   exact⟨a,_,rfl,SqT.of h,rfl,_,_,rfl,_,_,rfl,rfl,q [some _,some _] rfl (a3k r1 (a3k r2 a7o))⟩
  .cases e
 |_=>cases e
theorem aap{us:St}(h:us.length=n):L2.Ext (List.replicate n none++r) (us++r):=by
 refine⟨by simp[h],λi v e=>?_⟩
 by_cases hi:i<n
 .rw[aV (by simpa using hi),dF,av hi]at e
  cases e
 .rw[aN (by simpa using hi),dQ]at e
  rw[aN (by omega),h]
  exact e
theorem ac1(ir:aok K U0 H0 J it)(tg:aef K n g t)(S:SRep K U0 H0 r rd)(Rh:HRep K U0 H0 h0)(hl:it.xs.length<=LINE)
  (o:out K E (ur K) U0 H0 ((mapR it.ck (a2t t fe rd) it.xs h0).bind (ac0 [])) Q):ao9 J (List.replicate n none++r) g (lift K E (ur K) fe) Q H0:=by
 refine⟨λi m ys H=>m=it.xs.length-i/\i<=it.xs.length/\ys.length<=i/\∃U h yd,Gr U0 H0 U H/\HRep K U H h/\Reps K U H ys yd/\out K E (ur K) U H ((mapR it.ck (a2t t fe rd) (it.xs.drop i) h).bind (ac0 yd)) Q,
  ⟨_,rfl,bH _,bH _,U0,h0,[],.refl _ _,Rh,.nil,o⟩,?_⟩
 rintro i m ys H ⟨rfl,hi,hy,U,h,yd,g0,Rh,ry,o⟩
 by_cases hlt:i<it.xs.length
 .rw[de hlt,mapR]at o
  by_cases hc:it.ck h
  .rw[av hc,atk]at o;obtain⟨go,yl⟩:=(ir U H h g0 Rh hc).1 i _ (a8 hlt);refine .inr ⟨go,Nat.lt_of_le_of_lt hy (aX hlt (ll hl)),λx H' y=>?_⟩;obtain⟨g1,r1,hr1⟩:=yl x H' y;have o':=a5d o g1
   cases ht:t it.xs[i] with
   |none=>simp only[a2t,ht]at o';exact o'.elim
   |some ts =>
    simp only[a2t,ht]at o';refine tg U H' x _ ts r _ r1 ht λus hus su=>⟨aap hus,U,ts++rd,h,a3l su (S.mono (g0.trans g1)),hr1,dg o' λd2 h2 U2 H2 u g2 r2 hr2 o2=>?_⟩;refine⟨it.xs.length-(i+1),by omega,rfl,hlt,by simp;omega,U2,h2,yd++[d2],(g0.trans g1).trans g2,hr2,((ry.mono g1).mono g2).snoc r2,o2⟩
  .rw[aO hc]at o;exact o.elim
 .have e:i=it.xs.length:=by omega
  subst e;rw[cA (a9 _),mapR]at o
  by_cases hc:it.ck h
  .rw[av hc]at o;refine .inl ⟨(ir U H h g0 Rh hc).2,vq (E:=E) ry Rh ?_⟩;simpa[R.bind,ac0] using o
  .rw[aO hc]at o;exact o.elim
theorem a94(ir:aok K U0 H0 J it)(tg:aef K n g t)(S:SRep K U0 H0 r rd)(Rh:HRep K U0 H0 h0)(hl:it.xs.length<=LINE)
  (o:out K E (ur K) U0 H0 ((ai7 it.ck (aao t c fe rd) it.xs h0).bind (ac0 [])) Q):aaf J (List.replicate n none++r) g (lift K E am7 c) (lift K E (ur K) fe) Q H0:=by
 refine⟨λi m ys H=>m=it.xs.length-i/\i<=it.xs.length/\ys.length<=i/\∃U h yd,Gr U0 H0 U H/\HRep K U H h/\Reps K U H ys yd/\out K E (ur K) U H ((ai7 it.ck (aao t c fe rd) (it.xs.drop i) h).bind (ac0 yd)) Q,
  ⟨_,rfl,bH _,bH _,U0,h0,[],.refl _ _,Rh,.nil,o⟩,?_⟩
 rintro i m ys H ⟨rfl,hi,hy,U,h,yd,g0,Rh,ry,o⟩
 by_cases hlt:i<it.xs.length
 .rw[de hlt,ai7]at o
  by_cases hc:it.ck h
  .rw[av hc,ay8]at o;obtain⟨go,yl⟩:=(ir U H h g0 Rh hc).1 i _ (a8 hlt);refine .inr ⟨go,Nat.lt_of_le_of_lt hy (aX hlt (ll hl)),λx H' y=>?_⟩;obtain⟨g1,r1,hr1⟩:=yl x H' y;have o':=a5d o g1
   cases ht:t it.xs[i] with
   |none=>simp only[aao,ht]at o';exact o'.elim
   |some ts =>
    simp only[aao,ht]at o';rw[R.bind_assoc]at o';refine tg U H' x _ ts r _ r1 ht λus hus su=>⟨aap hus,U,ts++rd,h,a3l su (S.mono (g0.trans g1)),hr1,dg o' λb h1 U1 H1 b' g2 rb hrb ob=>?_⟩;have su1:SRep K U1 H1 (us++r) (ts++rd):=(a3l su (S.mono (g0.trans g1))).mono g2;cases rb
    cases b with
    |true =>
     rw[av rfl]at ob ⊢;rw[R.bind_assoc]at ob;refine⟨U1,ts++rd,h1,su1,hrb,dg ob λd2 h2 U2 H2 u g3 r2 hr2 o2=>?_⟩;refine⟨it.xs.length-(i+1),by omega,rfl,hlt,by simp;omega,U2,h2,yd++[d2],((g0.trans g1).trans g2).trans g3,hr2,(((ry.mono g1).mono g2).mono g3).snoc r2,?_⟩
     simpa[R.bind] using o2
    |false =>
     rw[aO aU]at ob ⊢;refine⟨it.xs.length-(i+1),by omega,rfl,hlt,by omega,U1,h1,yd,(g0.trans g1).trans g2,hrb,(ry.mono g1).mono g2,?_⟩
     simpa[R.bind] using ob
  .rw[aO hc]at o;exact o.elim
 .have e:i=it.xs.length:=by omega
  subst e;rw[cA (a9 _),ai7]at o
  by_cases hc:it.ck h
  .rw[av hc]at o;refine .inl ⟨(ir U H h g0 Rh hc).2,vq (E:=E) ry Rh ?_⟩;simpa[R.bind,ac0] using o
  .rw[aO hc]at o;exact o.elim
section
variable{X:Cx}{E:XD}{aD tg aF cnd:Expr}{aB:Scope}{pos:Pos}{cl:List (Str×Addr)}{ts fr:List Str}{ix:List Nat}{fi:SI}{g:TG}{t:D->Option Sd}{fe:SE}{fc:ST}
theorem zf(hc:X.calm=true)(S:CSc X aB cl ts fr ix)(hi:MI X E tg aF fi)(hg:∀C fp s H,PG (cxC X (ts++fr) aB cl C fp s H) tg g)(ht:aef X.K ts.length g t)(he:∀C fp s H,ME (cxC X (ts++fr) aB cl C fp s H) E aD fe)
  (hs:∀x,foldedSetIterable aF X.env x=pure x:=by intro _;rfl):ME X E (.ListComp aD [⟨tg,aF,[],0⟩] aB pos) (mj fi t fe ix):=by
 refine PE.weak (aj2 (te:=lift X.K E (ur X.K) fe) hc S hi hg he hs) ?_
 rintro σ H Q ⟨U,τ,h,Sr,Rh,o⟩
 refine⟨U,τ,h,Sr,Rh,dg o λit h1 U1 H1 J g1 r1 hr1 o1=>?_⟩
 by_cases hl:it.xs.length<=LINE
 .rw[av hl]at o1;exact ac1 r1 ht (a3m (Sr.mono g1) ix) hr1 hl o1
 .rw[aO hl]at o1;exact o1.elim
theorem ac2(hc:X.calm=true)(S:CSc X aB cl ts fr ix)(hi:MI X E tg aF fi)(hg:∀C fp s H,PG (cxC X (ts++fr) aB cl C fp s H) tg g)(ht:aef X.K ts.length g t)(he:∀C fp s H,ME (cxC X (ts++fr) aB cl C fp s H) E aD fe)
  (hq:∀C fp s H,MT (cxC X (ts++fr) aB cl C fp s H) E cnd fc)
  (hs:∀x,foldedSetIterable aF X.env x=pure x:=by intro _;rfl):ME X E (.ListComp aD [⟨tg,aF,[cnd],0⟩] aB pos) (a1g fi t fc fe ix):=by
 refine PE.weak (adk (te:=lift X.K E (ur X.K) fe) (tc:=lift X.K E am7 fc) hc S hi hg he hq hs) ?_
 rintro σ H Q ⟨U,τ,h,Sr,Rh,o⟩
 refine⟨U,τ,h,Sr,Rh,dg o λit h1 U1 H1 J g1 r1 hr1 o1=>?_⟩
 by_cases hl:it.xs.length<=LINE
 .rw[av hl]at o1;exact a94 r1 ht (a3m (Sr.mono g1) ix) hr1 hl o1
 .rw[aO hl]at o1;exact o1.elim
end
mutual
def clo(n:Nat):D->Prop
 |.tup xs=>clos n xs
 |.rol xs=>clos n xs
 |.rod _ xs=>clos n xs
 |.scr xs=>clos n xs
 |.rdT _ xs=>clos n xs
 |.ins _ _ xs=>clos n xs
 |.ref i=>i<n
 |_=>True
def clos(n:Nat):List D->Prop
 |[]=>True
 |x::xs=>clo n x/\clos n xs
end
mutual
theorem Rep.clo:∀{v:V} {d:D},Rep K U H v d->clo U.length d
 |_,_,.non=>by simp[MI.clo]
 |_,_,.bl b=>by simp[MI.clo]
 |_,_,.int i=>by simp[MI.clo]
 |_,_,.str x=>by simp[MI.clo]
 |_,_,.ty n=>by simp[MI.clo]
 |_,_,.tup h r=>by simp only[MI.clo];exact Reps.clo r
 |_,_,.rol h r=>by simp only[MI.clo];exact Reps.clo r
 |_,_,.ref h=>by simp only[MI.clo];exact(ag.mp h).1
 |_,_,.rod h e r=>by simp only[MI.clo];exact Reps.clo r
 |_,_,.scr h r=>by simp only[MI.clo];exact Reps.clo r
 |_,_,.rdT h e r=>by simp only[MI.clo];exact Reps.clo r
 |_,_,.exc h hc hn=>by simp[MI.clo]
 |_,_,.ins h hn e r=>by simp only[MI.clo];exact Reps.clo r
theorem Reps.clo:∀{vs:List V} {ds:List D},Reps K U H vs ds->clos U.length ds
 |_,_,.nil=>by simp[MI.clos]
 |_,_,.cons r rs=>by simp only[MI.clos];exact⟨Rep.clo r,Reps.clo rs⟩
end
mutual
theorem Rep.cut:∀{v:V} {d:D},Rep K U H v d->clo n d->Rep K (U.take n) H v d
 |_,_,.non,_=>.non
 |_,_,.bl b,_=>.bl b
 |_,_,.int i,_=>.int i
 |_,_,.str x,_=>.str x
 |_,_,.ty n,_=>.ty n
 |_,_,.tup h r,c=>.tup h (Reps.cut r (by simpa only[MI.clo] using c))
 |_,_,.rol h r,c=>.rol h (Reps.cut r (by simpa only[MI.clo] using c))
 |_,_,.ref h,c=>.ref (by simp only[MI.clo]at c;rw[eJ,av c];exact h)
 |_,_,.rod h e r,c=>.rod h e (Reps.cut r (by simpa only[MI.clo] using c))
 |_,_,.scr h r,c=>.scr h (Reps.cut r (by simpa only[MI.clo] using c))
 |_,_,.rdT h e r,c=>.rdT h e (Reps.cut r (by simpa only[MI.clo] using c))
 |_,_,.exc h hc hn,_=>.exc h hc hn
 |_,_,.ins h hn e r,c=>.ins h hn e (Reps.cut r (by simpa only[MI.clo] using c))
theorem Reps.cut:∀{vs:List V} {ds:List D},Reps K U H vs ds->clos n ds->Reps K (U.take n) H vs ds
 |_,_,.nil,_=>.nil
 |_,_,.cons r rs,c=>by simp only[MI.clos]at c;exact .cons (Rep.cut r c.1) (Reps.cut rs c.2)
end
def yc(n:Nat):O->Prop
 |.lst xs=>clos n xs
 |.dK kvs=>clos n (kvs.map (·.2))
 |.dT kvs=>clos n (kvs.map (·.2))
 |.ins _ fs=>clos n (fs.map (·.2))
 |.dN kvs=>clos n (kvs.map (·.2))
def atm(n:Nat)(h:Hd):Prop:=∀o∈h,yc n o
theorem ORep.clo(r:ORep K U H a o):yc U.length o:=by
 cases o with
 |lst xs=>obtain⟨vs,_,r⟩:=r;exact r.clo
 |dK kvs=>obtain⟨us,_,_,r⟩:=r;exact r.clo
 |dT kvs=>obtain⟨us,_,_,r⟩:=r;exact r.clo
 |ins _ _=>obtain⟨_,_,us,_,_,_,r⟩:=r;exact r.clo
 |dN kvs=>obtain⟨us,_,_,r⟩:=r;exact r.clo
theorem ORep.cut(r:ORep K U H a o)(c:yc n o):ORep K (U.take n) H a o:=by
 cases o with
 |lst xs=>obtain⟨vs,h,r⟩:=r;exact⟨vs,h,r.cut c⟩
 |dK kvs=>obtain⟨us,h,e,r⟩:=r;exact⟨us,h,e,r.cut c⟩
 |dT kvs=>obtain⟨us,h,e,r⟩:=r;exact⟨us,h,e,r.cut c⟩
 |ins _ _=>obtain⟨C,dx,us,h,hn,e,r⟩:=r;exact⟨C,dx,us,h,hn,e,r.cut c⟩
 |dN kvs=>obtain⟨us,h,e,r⟩:=r;exact⟨us,h,e,r.cut c⟩
theorem HRep.clo(r:HRep K U H h):atm h.length h:=λo ho=>by
 obtain⟨i,hi⟩:=c9 ho;obtain⟨a,_,q⟩:=r.addr hi;rw[<-r.len];exact q.clo
theorem HRep.cut(r:HRep K U H (h++g))(c:atm h.length h):HRep K (U.take h.length) H h:=by
 refine⟨r.nd.sublist (List.take_sublist _ _),?_,λi a o e1 e2=>?_⟩
 .have:=r.len
  rw[ae]at this;rw[aR];omega
 .have hi:i<h.length:=(ag.mp e2).1;rw[eJ,av hi]at e1;exact(r.obj i a o e1 (by rw[aV hi];exact e2)).cut (c o (bB e2))
def X0:XD:=λ_ _ _ _=>False
abbrev SF:=List D->Hd->R D
noncomputable def a0h(K:Fg)(n:Nat)(F:SF):Sp:=λvs H Q _=>vs.length=n/\∃U ds h,Reps K U H vs ds/\HRep K U H h/\out K X0 (ur K) U H (F ds h) Q
noncomputable def a3n(n:Nat)(ds:List D):Sd:=ds.map some++List.replicate (n-ds.length) none
noncomputable def jt(b:SS)(n:Nat)(ds:List D)(h:Hd):R D:=match b (a3n n ds) h with
 |.rt d h1=>.ok d h1
 |.nx _ h1=>.ok .non h1
 |.ex c h1=>.ex c h1
 |_=>.no
def Rf(n:Nat)(r' r:R D):Prop:=match r with
 |.no=>True
 |.ok d h1=>∃g,r'=.ok d (h1++g)/\(g=[]\/(n<=h1.length/\clo h1.length d/\atm h1.length h1))
 |.ex c h1=>∃g,r'=.ex c (h1++g)/\(g=[]\/(n<=h1.length/\atm h1.length h1))
theorem Rf.same(h:r'=r):Rf n r' r:=by
 subst h
 cases r' with
 |ok d h1=>exact⟨[],by simp,.inl rfl⟩
 |ex c h1=>exact⟨[],by simp,.inl rfl⟩
 |no=>exact True.intro
theorem a6y(r:Reps K U H vs ds):SRep K U H (start N vs) (a3n N.length ds):=by
 refine a3l ?_ ?_
 .clear N
  induction r using Reps.rec (motive_1:=λ_ _ _=>True) with
  |nil=>exact a7o
  |cons r rs _ ih=>exact a3k r ih
  |_=>trivial
 .rw[r.len];exact⟨by simp,λi d e=>by rw[dF]at e;split at e<;>cases e⟩
theorem ame(g:Gr U H U' H')(hn:U.length<=n):Gr U H (U'.take n) H':=by
 obtain⟨m,rfl,hm⟩:=g.pre;exact⟨⟨m.take (n-U.length),by rw[List.take_append,cf hn],λa ha=>hm a (bW ha)⟩,g.tup,g.frz,g.oth,g.kp⟩
section
variable{P:Program}{w:World}{K:Fg}{mg:Str->Option Value}{base:Heap}
theorem atn(Fu:Fun K x qual st f fd)(S:FnScope N ps (ig st))
  (hb:∀(cdv:Value) (A:Around) (outer:List Env) (s:Shared) (H:Hp) (E:XK),Room k (A.deeper (PyProof.Rows.envOfC qual (ig st) s.heap.objs.size f cdv))->MSs (aex CX0 P w K mg base N qual (ig st) f cdv A outer s H E).nox X0 (uq st) b)
  (hF:∀ds h,ds.length=ps.length->clos h.length ds->atm h.length h->Rf h.length (jt b N.length ds h) (F ds h)):FnOk P w K mg base CX0 (k+1) f fd ps (a0h K ps.length F):=by
 refine Fu.ok S (λvs H Q E h=>h.1) λcdv A outer s H vs Q E hr h=>⟨_,hb cdv A outer s H E hr,?_⟩;obtain⟨hl,U,ds,h,r,hr',o⟩:=h;refine⟨U,a3n N.length ds,h,a6y r,hr',?_⟩;have q:=hF ds h (by rw[<-r.len];exact hl) (by rw[<-hr'.len];exact r.clo) hr'.clo
 unfold jt at q
 cases hFd:F ds h with
 |no=>rw[hFd]at o;exact o.elim
 |ex c h1 =>
  rw[hFd]at q o;obtain⟨g,e,cl⟩:=q;have fin:∀U' H',Gr U H U' H'->HRep K U' H' (h1++g)->X0 c U' H' (h1++g):=λU' H' g1 hr1=>by
   rcases cl with rfl|⟨hn,c2⟩
   .rw[bX]at hr1;exact o U' H' g1 hr1
   .exact o (U'.take h1.length) H' (ame g1 (by rw[hr'.len];exact hn)) (hr1.cut c2)
  cases hbd:b (a3n N.length ds) h with
  |ex c' h' =>
   rw[hbd]at e
   injection e with e1 e2
   subst e1 e2;exact fin
  |_=>rw[hbd]at e;cases e
 |ok d h1 =>
  rw[hFd]at q o;obtain⟨g,e,cl⟩:=q;have fin:∀U' H' v,Gr U H U' H'->Rep K U' H' v d->HRep K U' H' (h1++g)->Q v H':=λU' H' v g1 r1 hr1=>by
   rcases cl with rfl|⟨hn,c1,c2⟩
   .rw[bX]at hr1;exact o U' H' v g1 r1 hr1
   .exact o (U'.take h1.length) H' v (ame g1 (by rw[hr'.len];exact hn)) (r1.cut c1) (hr1.cut c2)
  cases hbd:b (a3n N.length ds) h with
  |rt d' h' =>
   rw[hbd]at e
   injection e with e1 e2
   subst e1 e2;exact fin
  |nx τ' h' =>
   rw[hbd]at e
   injection e with e1 e2
   subst e1 e2;exact λU' H' σ' g1 S1 hr1=>fin U' H' .non g1 .non hr1
  |_=>rw[hbd]at e;cases e
end
section
variable{K:Fg}{E:XD}{U:List Addr}{H:Hp}{h:Hd}{Q:VK}
theorem ans(o:out K E (ur K) U H (.ok d h) Q)(r:Rep K U H v d)(hr:HRep K U H h):Q v H:=o U H v (.refl _ _) r hr
theorem HRep.lst(hr:HRep K U H h){i:Nat}{a:Addr}{xs:List D}(e:U[i]? = some a)(hi:h[i]? = some (.lst xs)):∃vs,H a=some (.lst vs)/\Reps K U H vs xs:=hr.obj i a _ e hi
end
noncomputable def b0o:D->D->Hd->R D
 |.int i,.int j,h=>.ok (.int (i+j)) h
 |.str x,.str y,h=>if x.length+y.length<=LINE then .ok (.str (x++y)) h else .no
 |.tup xs,.tup ys,h=>if xs≠[]/\xs.length+ys.length<=LINE then .ok (.tup (xs++ys)) h else .no
 |.ref i,.ref j,h=>match h[i]?,h[j]? with
  |some (.lst xs),some (.lst ys)=>if xs.length+ys.length<=LINE then .ok (.ref h.length) (h++[.lst (xs++ys)]) else .no
  |_,_=>.no
 |_,_,_=>.no
noncomputable def a3h:D->D->Hd->R D
 |.int i,.int j,h=>.ok (.int (i-j)) h
 |_,_,_=>.no
open Classical in
def ato:D->D->Hd->R D
 |.int i,.int j,h=>if CMul i j then .ok (.int (i*j)) h else .no
 |.ref i,.int k,h=>match h[i]? with
  |some (.lst xs)=>if (-(2^63)<=k/\k<2^63)/\xs.length*k.toNat<=LINE then .ok (.ref h.length) (h++[.lst (List.replicate k.toNat xs).flatten]) else .no
  |_=>.no
 |_,_,_=>.no
noncomputable def a3z:D->D->Hd->R D
 |.int i,.int j,h=>if 0<j then .ok (.int (i%j)) h else .no
 |_,_,_=>.no
noncomputable def a6m:D->D->Hd->R D
 |.int i,.int j,h=>if 0<j/\j<1073741824 then .ok (.int (i / j)) h else .no
 |_,_,_=>.no
noncomputable def a6z:D->D->Hd->R D
 |.int i,.int j,h=>if 0<=j/\j<=1000000/\i.natAbs<2^64 then .ok (.int (i^j.toNat)) h else .no
 |_,_,_=>.no
section
variable{X:Cx}{K:Fg}
theorem aaq:a01 K a3h (rI0 λi j=>.int (i-j)):=by
 intro E U H h x y dx dy Q rx ry hr o
 cases rx with
 |int i =>
  cases ry with
  |int j=>exact⟨i,j,rfl,rfl,ans o (.int _) hr⟩
  |_=>exact o.elim
 |_=>exact o.elim
theorem aon:a01 K a3z (rI (λ_ j=>0<j) λi j=>.int (i%j)):=by
 intro E U H h x y dx dy Q rx ry hr o
 cases rx with
 |int i =>
  cases ry with
  |int j =>
   by_cases hc:0<j
   .simp only[a3z,av hc]at o;exact⟨i,j,rfl,rfl,hc,ans o (.int _) hr⟩
   .simp only[a3z,aO hc]at o;exact o.elim
  |_=>exact o.elim
 |_=>exact o.elim
theorem afs:a01 K a6m (rI axn λi j=>.int (i / j)):=by
 intro E U H h x y dx dy Q rx ry hr o
 cases rx with
 |int i =>
  cases ry with
  |int j =>
   by_cases hc:0<j/\j<1073741824
   .simp only[a6m,av hc]at o;exact⟨i,j,rfl,rfl,hc,ans o (.int _) hr⟩
   .simp only[a6m,aO hc]at o;exact o.elim
  |_=>exact o.elim
 |_=>exact o.elim
theorem aop:a01 K a6z (rI azg λi j=>.int (i^j.toNat)):=by
 intro E U H h x y dx dy Q rx ry hr o
 cases rx with
 |int i =>
  cases ry with
  |int j =>
   by_cases hc:0<=j/\j<=1000000/\i.natAbs<2^64
   .simp only[a6z,av hc]at o;exact⟨i,j,rfl,rfl,hc,ans o (.int _) hr⟩
   .simp only[a6z,aO hc]at o;exact o.elim
  |_=>exact o.elim
 |_=>exact o.elim
theorem aft:a01 K ato (λx y H Q=>rI CMul (λi j=>.int (i*j)) x y H Q\/aqv x y H Q):=by
 intro E U H h x y dx dy Q rx ry hr o
 cases rx with
 |int i =>
  cases ry with
  |int j =>
   by_cases hc:CMul i j
   .simp only[ato,av hc]at o;exact .inl ⟨i,j,rfl,rfl,hc,ans o (.int _) hr⟩
   .simp only[ato,aO hc]at o;exact o.elim
  |_=>exact o.elim
 |@ref a i ha =>
  cases ry with
  |int k =>
   simp only[ato]at o
   split at o
   .rename_i xs hx;obtain⟨vs,h3,h4⟩:=hr.lst ha hx
    split at o
    .rename_i hc;exact .inr ⟨a,k,vs,rfl,rfl,h3,hc.1.1,hc.1.2,ll (by rw[h4.len];exact hc.2),vq (h4.flat _) hr o⟩
    .exact o.elim
   .exact o.elim
  |_=>exact o.elim
 |_=>exact o.elim
variable{E:XD}{a b e:Expr}{es:List Expr}{fa fb:SE}{ka:SA}{pos:Pos}
theorem atp(ha:ME X E a fa)(hb:ME X E b fb):ME X E (.BinOp a .Sub b pos) (s2 a3h fa fb):=a90 arw aaq ha hb
theorem atq(ha:ME X E a fa)(hb:ME X E b fb):ME X E (.BinOp a .Mod b pos) (s2 a3z fa fb):=a90 arx aon ha hb
theorem atr(ha:ME X E a fa)(hb:ME X E b fb):ME X E (.BinOp a .FloorDiv b pos) (s2 a6m fa fb):=a90 anv afs ha hb
theorem atu(ha:ME X E a fa)(hb:ME X E b fb):ME X E (.BinOp a .Pow b pos) (s2 a6z fa fb):=a90 arz aop ha hb
noncomputable def ai8:D->Hd->R D
 |.int i,h=>.ok (.int (-i)) h
 |_,_=>.no
theorem atv(ha:ME X E a fa):ME X E (.UnaryOp .USub a pos) (s1 ai8 fa):=ay3 as3 (λE U H h x dx Q rx hr o=>by
 cases rx with
 |int i=>exact⟨i,rfl,ans o (.int _) hr⟩
 |_=>exact o.elim) ha
noncomputable def gLt:D->D->Hd->R D
 |.int i,.int j,h=>.ok (.bl (decide (i<j))) h
 |.str i,.str j,h=>.ok (.bl (decide (i.cps.toList<j.cps.toList))) h
 |_,_,_=>.no
noncomputable def gLe:D->D->Hd->R D
 |.int i,.int j,h=>.ok (.bl (decide (i<=j))) h
 |.str i,.str j,h=>.ok (.bl (!decide (j.cps.toList<i.cps.toList))) h
 |_,_,_=>.no
noncomputable def gGt:D->D->Hd->R D
 |.int i,.int j,h=>.ok (.bl (decide (j<i))) h
 |_,_,_=>.no
noncomputable def gGe:D->D->Hd->R D
 |.int i,.int j,h=>.ok (.bl (decide (j<=i))) h
 |_,_,_=>.no
theorem amf:a01 K gLt (λx y H Q=>rI0 (λi j=>.bl (decide (i<j))) x y H Q\/∃i j,x=.str i/\y=.str j/\Q (.bl (decide (i.cps.toList<j.cps.toList))) H):=by
 intro E U H h x y dx dy Q rx ry hr o
 cases rx with
 |int i =>
  cases ry with
  |int j=>exact .inl ⟨i,j,rfl,rfl,ans o (.bl _) hr⟩
  |_=>exact o.elim
 |str i =>
  cases ry with
  |str j=>exact .inr ⟨i,j,rfl,rfl,ans o (.bl _) hr⟩
  |_=>exact o.elim
 |_=>exact o.elim
theorem a4u:a01 K gLe (λx y H Q=>rI0 (λi j=>.bl (decide (i<=j))) x y H Q\/∃i j,x=.str i/\y=.str j/\Q (.bl (!decide (j.cps.toList<i.cps.toList))) H):=by
 intro E U H h x y dx dy Q rx ry hr o
 cases rx with
 |int i =>
  cases ry with
  |int j=>exact .inl ⟨i,j,rfl,rfl,ans o (.bl _) hr⟩
  |_=>exact o.elim
 |str i =>
  cases ry with
  |str j=>exact .inr ⟨i,j,rfl,rfl,ans o (.bl _) hr⟩
  |_=>exact o.elim
 |_=>exact o.elim
theorem amg:a01 K gGt (rI0 λi j=>.bl (decide (j<i))):=by
 intro E U H h x y dx dy Q rx ry hr o
 cases rx with
 |int i =>
  cases ry with
  |int j=>exact⟨i,j,rfl,rfl,ans o (.bl _) hr⟩
  |_=>exact o.elim
 |_=>exact o.elim
theorem atw:a01 K gGe (rI0 λi j=>.bl (decide (j<=i))):=by
 intro E U H h x y dx dy Q rx ry hr o
 cases rx with
 |int i =>
  cases ry with
  |int j=>exact⟨i,j,rfl,rfl,ans o (.bl _) hr⟩
  |_=>exact o.elim
 |_=>exact o.elim
def a6n:D->Bool
 |.non=>true
 |_=>false
theorem aoq(r:Rep K U H x .non):x=.non:=by cases r;rfl
theorem amh{b:Bool}(r:Rep K U H x (.bl b)):x=.bl b:=by cases r;rfl
theorem afu{i:Int}(r:Rep K U H x (.int i)):x=.int i:=by cases r;rfl
theorem ajf(r:Rep K U H x d):decide (x=.non)=a6n d:=by cases r<;>simp[a6n]
noncomputable def gIs(x y:D)(h:Hd):R D:=match y with
 |.non=>.ok (.bl (a6n x)) h
 |.bl j=>(match x with|.bl i=>.ok (.bl (i == j)) h|_=>.no)
 |_=>.no
noncomputable def ami(x y:D)(h:Hd):R D:=match y with
 |.non=>.ok (.bl (!a6n x)) h
 |.bl j=>(match x with|.bl i=>.ok (.bl (i != j)) h|_=>.no)
 |_=>.no
theorem atx:a01 K gIs (λx y H Q=>(y=.non/\Q (.bl (decide (x=.non))) H)\/∃i j,x=.bl i/\y=.bl j/\Q (.bl (i == j)) H):=by
 intro E U H h x y dx dy Q rx ry hr o
 cases dy with
 |non=>exact .inl ⟨aoq ry,by rw[ajf rx];exact ans o (.bl _) hr⟩
 |bl j =>
  cases dx with
  |bl i=>exact .inr ⟨i,j,amh rx,amh ry,ans o (.bl _) hr⟩
  |_=>exact o.elim
 |_=>exact o.elim
noncomputable def a03:D->Bool
 |.non=>true|.bl _=>true|.int _=>true|.str _=>true
 |_=>false
noncomputable def fvD:D->Option V
 |.non=>some .non|.bl b=>some (.bl b)|.int i=>some (.int i)|.str x=>some (.str x)
 |_=>none
theorem ajg{d:D}(r:Rep K U H x d)(f:a03 d=true):fvD d=some x:=by
 cases r<;>first|rfl|(cases f;done)
theorem fvs{d e:D}{P:D->V->D->V->Prop}(h:∀d x e y,fvD d=some x->fvD e=some y->P d x e y)(r:Rep K U H x d)(q:Rep K U H y e)(f:a03 d=true)(g:a03 e=true):P d x e y:=h d x e y (ajg r f) (ajg q g)
noncomputable def eqF:D->D->Bool
 |.non,.non=>true
 |.bl i,.bl j=>i == j
 |.int i,.int j=>i == j
 |.str i,.str j=>i == j
 |.int i,.bl j=>i == (if j then 1 else 0)
 |.bl i,.int j=>(if i then 1 else 0) == j
 |_,_=>false
end
section
variable{X:Cx}{K:Fg}{E:XD}{a b e o:Expr}{es:List Expr}{fa fb:SE}{ka:SA}{pos:Pos}
noncomputable def xn(d:D)(h:Hd):Option (List D):=match d with
 |.tup xs=>some xs
 |.rol xs=>some xs
 |.ref i=>match h[i]? with|some (.lst xs)=>some xs|_=>none
 |_=>none
noncomputable def gIx(x y:D)(h:Hd):R D:=match y with
 |.int i=>(match x with
  |.str z=>if z.length<=LINE then (match atI z.cps.toList i with|some c=>.ok (.str ⟨#[c]⟩) h|none=>.no) else .no
  |x=>match xn x h with
   |some xs=>(match atI xs i with|some d=>.ok d h|none=>.no)
   |none=>.no)
 |_=>.no
theorem ac3(r:Reps K U H vs xs)(e:atI xs i=some d):∃v,atI vs i=some v/\Rep K U H v d:=by
 unfold atI at e ⊢;rw[r.len]
 cases hx:ixN xs.length i with
 |none=>rw[hx]at e;cases e
 |some j=>rw[hx]at e;exact r.get e
theorem aty:a01 K gIx (rIx K):=by
 intro E U H h x y dx dy Q rx ry hr o
 cases ry with
 |int i =>
  have go:∀{p:Addr} {vs:List V} {xs:List D},Reps K U H vs xs->out K E (ur K) U H (match atI xs i with|some d=>.ok d h|none=>.no) Q->∃v,atI vs i=some v/\Q v H:=λ{p vs xs} r o=>by
   cases he:atI xs i with
   |none=>rw[he]at o;exact o.elim
   |some d =>
    rw[he]at o;obtain⟨v,h1,h2⟩:=ac3 r he;exact⟨v,h1,ans o h2 hr⟩
  cases rx with
  |str z =>
   by_cases hc:z.length<=LINE
   .simp only[gIx,av hc]at o
    cases he:atI z.cps.toList i with
    |none=>rw[he]at o;exact o.elim
    |some c=>rw[he]at o;exact .inr (.inr ⟨z,i,c,rfl,rfl,ll hc,he,ans o (.str _) hr⟩)
   .simp only[gIx,aO hc]at o;exact o.elim
  |@tup p vs xs hp r =>
   simp only[gIx,xn]at o;obtain⟨v,h1,h2⟩:=go (p:=p) r o;exact .inr (.inl ⟨p,vs,i,v,rfl,rfl,SqT.of hp,h1,h2⟩)
  |@rol p vs xs hp r =>
   simp only[gIx,xn]at o;obtain⟨v,h1,h2⟩:=go (p:=p) r o;exact .inl ⟨p,vs,i,v,rfl,rfl,hp.l,h1,h2⟩
  |@ref p j hp =>
   obtain⟨ob,e1,e2⟩:=hr.at hp
   cases ob with
   |lst xs =>
    simp only[gIx,xn,e1]at o;obtain⟨vs,h3,h4⟩:=e2;obtain⟨v,h1,h2⟩:=go (p:=p) h4 o;exact .inl ⟨p,vs,i,v,rfl,rfl,SqL.of h3,h1,h2⟩
   |dK _=>simp only[gIx,xn,e1]at o;exact o.elim
   |dT _=>simp only[gIx,xn,e1]at o;exact o.elim
   |ins _ _=>simp only[gIx,xn,e1]at o;exact o.elim
   |dN _=>simp only[gIx,xn,e1]at o;exact o.elim
  |_=>exact o.elim
 |_=>exact o.elim
theorem aor(ha:ME X E a fa)(hb:ME X E b fb)(hp:a7g b):ME X E (.Subscript a b pos) (s2 gIx fa fb):=ay4 asf aty ha hb hp
abbrev SO:=Sd->Hd->R (Option Int)
abbrev MO(X:Cx)(E:XD)(e:Option Expr)(f:SO):Prop:=PO X e (lift X.K E b0m f)
def oN:SO:=λ_ h=>.ok none h
noncomputable def oS(f:SE):SO:=λτ h=>(f τ h).bind λd h1=>match d with|.int i=>.ok (some i) h1|_=>.no
theorem PO.weak{e:Option Expr}{t t':St->Hp->(Option Int->Hp->Prop)->Prop}(h:PO X e t)(i:∀σ H Q,t' σ H Q->t σ H Q):PO X e t':=λaA s σ H Q I q=>h aA s σ H Q I (i _ _ _ q)
theorem aos:MO X E none oN:=PO.weak ao2 λσ H Q ⟨U,τ,h,S,Rh,o⟩=>o U H none (.refl _ _) rfl Rh
theorem aot(he:ME X E e fa):MO X E (some e) (oS fa):=by
 refine PO.weak (ao3 he) ?_
 rintro σ H Q ⟨U,τ,h,S,Rh,o⟩
 refine⟨U,τ,h,S,Rh,dg o λd h1 U1 H1 v g1 r1 hr1 o1=>?_⟩
 cases r1 with
 |int i=>exact⟨i,rfl,o1 U1 H1 _ (.refl _ _) rfl hr1⟩
 |_=>exact o1.elim
def whole(n:Nat)(lo hi:Option Int):Prop:=HT.sIx n 0 lo=0/\HT.sIx n n hi=n
instance (n:Nat) (lo hi:Option Int):Decidable (whole n lo hi):=by unfold whole;exact inferInstance
noncomputable def gSl(d:D)(lo hi:Option Int)(h:Hd):R D:=match d with
 |.str z=>if z.length<=LINE then .ok (.str ⟨(a6k z.cps.toList lo hi).toArray⟩) h else .no
 |.tup xs=>if ¬ whole xs.length lo hi then .ok (.tup (a6k xs lo hi)) h else .no
 |.rol xs=>.ok (.ref h.length) (h++[.lst (a6k xs lo hi)])
 |.scr xs=>.ok (.ref h.length) (h++[.lst (a6k xs lo hi)])
 |.ref i=>match h[i]? with|some (.lst xs)=>.ok (.ref h.length) (h++[.lst (a6k xs lo hi)])|_=>.no
 |_=>.no
theorem a3o(r:Reps K U H vs xs)(lo hi:Option Int):Reps K U H (alz vs lo hi) (a6k xs lo hi):=by
 unfold alz a6k;rw[r.len];exact(r.drop _).take _
theorem ac4(rx:Rep K U H x d)(hr:HRep K U H h)(o:out K E (ur K) U H (gSl d lo hi h) Q):axx x lo hi H Q\/axs K x lo hi H Q\/axu K x lo hi H Q:=by
 cases rx with
 |str z =>
  by_cases hc:z.length<=LINE
  .simp only[gSl,av hc]at o;exact .inl ⟨z,rfl,ll hc,ans o (.str _) hr⟩
  .simp only[gSl,aO hc]at o;exact o.elim
 |@tup p vs xs hp r =>
  by_cases hc:¬ whole xs.length lo hi
  .simp only[gSl,av hc]at o;exact .inr (.inl ⟨p,vs,rfl,SqT.of hp,by rw[r.len];exact hc,a0r (a3o r lo hi) hr o⟩)
  .simp only[gSl,aO hc]at o;exact o.elim
 |@rol p vs xs hp r=>exact .inr (.inr ⟨p,vs,rfl,hp.l,vq (a3o r lo hi) hr o⟩)
 |@scr p vs xs hp r=>exact .inr (.inr ⟨p,vs,rfl,hp.l,vq (a3o r lo hi) hr o⟩)
 |@ref p j hp =>
  obtain⟨ob,e1,e2⟩:=hr.at hp
  cases ob with
  |lst xs =>
   simp only[gSl,e1]at o;obtain⟨vs,h3,h4⟩:=e2;exact .inr (.inr ⟨p,vs,rfl,SqL.of h3,vq (a3o h4 lo hi) hr o⟩)
  |dK _=>simp only[gSl,e1]at o;exact o.elim
  |dT _=>simp only[gSl,e1]at o;exact o.elim
  |ins _ _=>simp only[gSl,e1]at o;exact o.elim
  |dN _=>simp only[gSl,e1]at o;exact o.elim
 |_=>exact o.elim
theorem afv(r:Rep K U H x d)(f:a03 d=true):a2o x=true:=by cases r<;>first|rfl|cases f
theorem atz(r:Rep K U H x d)(q:Rep K U H y c):a03 d=true->a03 c=true->eqV x y=eqF d c:=λf g=>by
 refine fvs (P:=λd x c y=>eqV x y=eqF d c) (λd x e y h h'=>?_) r q f g
 cases d<;>first|(cases h;done)|(cases h;cases e<;>first|(cases h';done)|(cases h';rfl))
noncomputable def inD(x:D)(xs:List D):Bool:=xs.any λy=>eqF y x
theorem ajh(r:Reps K U H vs xs)(f:xs.all a03=true):vs.all a2o=true:=by
 induction r using Reps.rec (motive_1:=λ_ _ _=>True) with
 |nil=>rfl
 |cons r rs _ ih =>
  rw[bC,af]at f ⊢;exact⟨afv r f.1,ih f.2⟩
 |_=>trivial
theorem au0(rx:Rep K U H x d)(fx:a03 d=true)(r:Reps K U H vs xs)(f:xs.all a03=true):inV x vs=inD d xs:=by
 unfold inV inD
 induction r using Reps.rec (motive_1:=λ_ _ _=>True) with
 |nil=>rfl
 |cons r rs _ ih =>
  rw[bC,af]at f;rw[fQ,fQ,ih f.2,atz r rx f.1 fx]
 |_=>trivial
noncomputable def gIn(neg:Bool)(x y:D)(h:Hd):R D:=match y with
 |.str T=>(match x with
  |.str z=>(match z.cps.toList with|[c]=>.ok (.bl (if neg then !decide (c∈T.cps.toList) else decide (c∈T.cps.toList))) h|_=>.no)
  |_=>.no)
 |y=>match xn y h with
  |some xs=>if a03 x=true/\xs.all a03=true then .ok (.bl (if neg then !inD x xs else inD x xs)) h else .no
  |none=>.no
theorem one_sign{z:Str}(h:z.cps.toList=[c]):z=⟨#[c]⟩:=by
 obtain⟨cps⟩:=z
 congr
 exact Array.ext' (by simpa using h)
theorem amj(neg:Bool){r1:R2}(h1:∀c T H (Q:VK),Q (.bl (if neg then !decide (c∈T.cps.toList) else decide (c∈T.cps.toList))) H->r1 (.str ⟨#[c]⟩) (.str T) H Q):a01 K (gIn neg) (λx y H Q=>r1 x y H Q\/rIn K neg x y H Q):=by
 intro E U H h x y dx dy Q rx ry hr o
 have go:∀{p:Addr} {vs:List V} {xs:List D},(SqL K H p vs\/SqT K H p vs)->Reps K U H vs xs->out K E (ur K) U H (if a03 dx=true/\xs.all a03=true then .ok (.bl (if neg then !inD dx xs else inD dx xs)) h else .no) Q->rIn K neg x (.ref p) H Q:=λ{p vs xs} sq r o=>by
  split at o
  .rename_i hc;exact⟨p,vs,rfl,sq,afv rx hc.1,ajh r hc.2,by rw[au0 rx hc.1 r hc.2];exact ans o (.bl _) hr⟩
  .exact o.elim
 cases ry with
 |str T =>
  cases rx with
  |str z =>
   simp only[gIn]at o
   split at o
   .rename_i c hz;rw[one_sign hz];exact .inl (h1 c T H Q (ans o (.bl _) hr))
   .exact o.elim
  |_=>exact o.elim
 |@tup p vs xs hp r=>simp only[gIn,xn]at o;exact .inr (go (.inr (SqT.of hp)) r o)
 |@rol p vs xs hp r=>simp only[gIn,xn]at o;exact .inr (go (.inl hp.l) r o)
 |@ref p j hp =>
  obtain⟨ob,e1,e2⟩:=hr.at hp
  cases ob with
  |lst xs =>
   simp only[gIn,xn,e1]at o;obtain⟨vs,h3,h4⟩:=e2;exact .inr (go (.inl (SqL.of h3)) h4 o)
  |dK _=>simp only[gIn,xn,e1]at o;exact o.elim
  |dT _=>simp only[gIn,xn,e1]at o;exact o.elim
  |ins _ _=>simp only[gIn,xn,e1]at o;exact o.elim
  |dN _=>simp only[gIn,xn,e1]at o;exact o.elim
 |_=>exact o.elim
theorem afw:a01 K (gIn false) (λx y H Q=>(∃c T,x=.str ⟨#[c]⟩/\y=.str T/\Q (.bl (decide (c∈T.cps.toList))) H)\/rIn K false x y H Q):=amj false λc T H Q q=>⟨c,T,rfl,rfl,q⟩
theorem aou:a01 K (gIn true) (λx y H Q=>(∃c T,x=.str ⟨#[c]⟩/\y=.str T/\Q (.bl (!decide (c∈T.cps.toList))) H)\/rIn K true x y H Q):=amj true λc T H Q q=>⟨c,T,rfl,rfl,q⟩
noncomputable def kj:List D->Hd->R D
 |[.str z],h=>if z.length<=LINE then .ok (.int z.length) h else .no
 |[x],h=>(match xn x h with|some xs=>.ok (.int xs.length) h|none=>.no)
 |_,_=>.no
theorem aov:abx K kj (λxs H Q=>(∃p ys,xs=[.ref p]/\(SqL K H p ys\/SqT K H p ys)/\Q (.int ys.length) H)\/∃z,xs=[.str z]/\z.length<=sizeLine/\Q (.int z.length) H):=by
 intro E U H h xs ds Q r hr o
 cases r with
 |nil=>exact o.elim
 |cons r rs =>
  cases rs with
  |cons _ _=>exact(show False by cases r<;>exact o).elim
  |nil =>
   cases r with
   |str z =>
    by_cases hc:z.length<=LINE
    .simp only[kj,av hc]at o;exact .inr ⟨z,rfl,ll hc,ans o (.int _) hr⟩
    .simp only[kj,aO hc]at o;exact o.elim
   |@tup p vs xs hp r=>simp only[kj,xn]at o;exact .inl ⟨p,vs,rfl,.inr (SqT.of hp),by rw[r.len];exact ans o (.int _) hr⟩
   |@rol p vs xs hp r=>simp only[kj,xn]at o;exact .inl ⟨p,vs,rfl,.inl hp.l,by rw[r.len];exact ans o (.int _) hr⟩
   |@ref p j hp =>
    obtain⟨ob,e1,e2⟩:=hr.at hp
    cases ob with
    |lst xs =>
     simp only[kj,xn,e1]at o;obtain⟨vs,h3,h4⟩:=e2;exact .inl ⟨p,vs,rfl,.inl (SqL.of h3),by rw[h4.len];exact ans o (.int _) hr⟩
    |dK _=>simp only[kj,xn,e1]at o;exact o.elim
    |dT _=>simp only[kj,xn,e1]at o;exact o.elim
    |ins _ _=>simp only[kj,xn,e1]at o;exact o.elim
    |dN _=>simp only[kj,xn,e1]at o;exact o.elim
   |_=>exact o.elim
noncomputable def awv:List D->Hd->R D
 |[.int i],h=>.ok (.int (if i<0 then -i else i)) h
 |_,_=>.no
theorem aow:abx K awv (λxs H Q=>∃i,xs=[.int i]/\Q (.int (if i<0 then -i else i)) H):=by
 intro E U H h xs ds Q r hr o
 unfold awv at o
 split at o
 .cases r with|cons r rs=>cases r;cases rs;exact⟨_,rfl,ans o (.int _) hr⟩
 .exact o.elim
noncomputable def a95:List D->Hd->R D
 |[.int i,.int j],h=>.ok (.int (if j > i then j else i)) h
 |_,_=>.no
noncomputable def aji:List D->Hd->R D
 |[.int i,.int j],h=>.ok (.int (if j<i then j else i)) h
 |_,_=>.no
theorem ajj:abx K a95 (λxs H Q=>∃i j,xs=[.int i,.int j]/\Q (.int (if j > i then j else i)) H):=by
 intro E U H h xs ds Q r hr o
 unfold a95 at o
 split at o
 .cases r with|cons r rs=>cases rs with|cons q rs=>cases r;cases q;cases rs;exact⟨_,_,rfl,ans o (.int _) hr⟩
 .exact o.elim
noncomputable def ajk:List D->Hd->R D
 |[.int i],h=>.ok (.int i) h
 |[.bl k],h=>.ok (.int (if k then 1 else 0)) h
 |_,_=>.no
theorem aox:abx K ajk (λxs H Q=>(∃i,xs=[.int i]/\Q (.int i) H)\/∃k,xs=[.bl k]/\Q (.int (if k then 1 else 0)) H):=by
 intro E U H h xs ds Q r hr o
 unfold ajk at o
 split at o
 .cases r with|cons r rs=>cases r;cases rs;exact .inl ⟨_,rfl,ans o (.int _) hr⟩
 .cases r with|cons r rs=>cases r;cases rs;exact .inr ⟨_,rfl,ans o (.int _) hr⟩
 .exact o.elim
noncomputable def au1:List D->Hd->R D
 |[.str x],h=>if x.length=1 then .ok (.int (x.cps.getD 0 0:Nat)) h else .no
 |_,_=>.no
theorem aoy:abx K au1 (λxs H Q=>∃x,xs=[.str x]/\x.length=1/\Q (.int (x.cps.getD 0 0:Nat)) H):=by
 intro E U H h xs ds Q r hr o
 unfold au1 at o
 split at o
 .split at o
  .rename_i hc
   cases r with|cons r rs=>cases r;cases rs;exact⟨_,rfl,hc,ans o (.int _) hr⟩
  .exact o.elim
 .exact o.elim
noncomputable def tyD(d:D)(h:Hd):Option String:=match d with
 |.non=>some "NoneType" |.bl _=>some "bool" |.int _=>some "int" |.str _=>some "str" |.tup _=>some "tuple" |.rol _=>some "list"
 |.ref i=>(match h[i]? with|some (.lst _)=>some "list" |some (.dK _)=>some "dict" |_=>none)
 |_=>none
noncomputable def ai9(t T:String):Option Bool :=
 if t∈["NoneType","bool","int","str","tuple","list","dict"]/\T∈["bool","int","str","tuple","list","dict"] then some (t == T || (t == "bool" && T == "int")) else none
theorem afx{t T:String}{b:Bool}(e:ai9 t T=some b):PySem.W.kitOne K (.type t) (.type T)=some b:=by
 unfold ai9 at e
 split at e
 .rename_i h;obtain⟨h1,h2⟩:=h;simp only[aZ,cE,ff]at h1 h2
  rcases h1 with rfl|rfl|rfl|rfl|rfl|rfl|rfl<;>rcases h2 with rfl|rfl|rfl|rfl|rfl|rfl<;>(cases e;rfl)
 .cases e
noncomputable def amk:List D->Hd->R D
 |[x,.ty T],h=>(match tyD x h with|some t=>(match ai9 t T with|some b=>.ok (.bl b) h|none=>.no)|none=>.no)
 |_,_=>.no
theorem au2(r:Rep K U H x d)(hr:HRep K U H h)(e:tyD d h=some t):TyOf K H x (.type t):=by
 cases r with
 |non=>cases e;exact .non
 |bl b=>cases e;exact .bl b
 |int b=>cases e;exact .int b
 |str b=>cases e;exact .str b
 |ty _=>cases e
 |tup hp r=>cases e;exact .tup hp
 |rol hp r=>cases e;obtain⟨o,hp⟩:=hp;exact .frz hp
 |scr _ _=>cases e
 |rod _ _ _=>cases e
 |rdT _ _ _=>cases e
 |exc _ _ _=>cases e
 |ins _ _ _ _=>cases e
 |ref hp =>
  obtain⟨ob,e1,e2⟩:=hr.at hp
  cases ob with
  |lst xs=>simp only[tyD,e1]at e;cases e;obtain⟨vs,h3,h4⟩:=e2;exact .lst h3
  |dK _=>simp only[tyD,e1]at e;cases e;obtain⟨vs,h3,h4⟩:=e2;exact .dK h3
  |dT _=>simp only[tyD,e1]at e;cases e
  |ins _ _=>simp only[tyD,e1]at e;cases e
  |dN _=>simp only[tyD,e1]at e;cases e
theorem aoz:abx K amk (λxs H Q=>∃x T t b,xs=[x,.ty T]/\TyOf K H x t/\PySem.W.kitOne K t (.type T)=some b/\Q (.bl b) H):=by
 intro E U H h xs ds Q r hr o
 unfold amk at o
 split at o
 .rename_i d T
  cases r with
  |cons r rs =>
   cases rs with
   |cons q rs =>
    cases q;cases rs
    cases ht:tyD d h with
    |none=>rw[ht]at o;exact o.elim
    |some t =>
     rw[ht]at o
     cases hb:ai9 t T with
     |none=>simp only[hb]at o;exact o.elim
     |some b =>
      simp only[hb]at o;exact⟨_,T,.type t,b,rfl,au2 r hr ht,afx hb,ans o (.bl _) hr⟩
 .exact o.elim
end
section
variable{X:Cx}{K:Fg}{E:XD}{a b e o:Expr}{es:List Expr}{fa fb fo:SE}{ka:SA}{pos apos cpos:Pos}{name:Str}{idn:String}
def aqx(K:Fg)(g:D->List D->Hd->R D)(r:V->List V->Hp->VK->Prop):Prop:=∀(E:XD) U H h x dx xs ds Q,Rep K U H x dx->Reps K U H xs ds->HRep K U H h->out K E (ur K) U H (g dx ds h) Q->r x xs H Q
noncomputable def isL(d:D)(h:Hd):Bool:=match d with|.ref i=>(match h[i]? with|some (.lst _)=>true|_=>false)|.rol _=>true|_=>false
noncomputable def sML(g:D->List D->Hd->R D)(f:SE)(k:SA):SE:=λτ h=>(f τ h).bind λd h1=>if isL d h1=true then (k τ h1).bind λds h2=>g d ds h2 else .no
theorem au3(r:Rep K U H x d)(hr:HRep K U H h)(e:isL d h=true):tyV K "list" x H:=by
 cases r with
 |rol hp _=>exact .inl ⟨rfl,_,hp.l⟩
 |ref hp =>
  obtain⟨ob,e1,e2⟩:=hr.at hp
  cases ob with
  |lst xs=>obtain⟨vs,h3,_⟩:=e2;exact .inl ⟨rfl,_,SqL.of h3⟩
  |dK _=>simp[isL,e1]at e
  |dT _=>simp[isL,e1]at e
  |ins _ _=>simp[isL,e1]at e
  |dN _=>simp[isL,e1]at e
 |_=>cases e
theorem au4(slot:Slot "list" name idn)(hty:typeOf (.builtin idn)=pure (.type "method_descriptor"))(hm:MtR X idn r)(hs:aqx X.K g r)(ho:ME X E o fo)(ha:MA X E (e::es) ka)
  (hbase:attributeBase o name X.env (eval o X.env)=eval o X.env:=by rfl)
  (hfew:((backTo cpos (starEach (e::es) X.env)).all (λx => !x.1) && (backToKw cpos (keywordEach [] X.env)).all (λx=>x.1.isSome)
   && decide ((e::es).length+([]:List Keyword).length+(if ([]:List Keyword).isEmpty then 0 else 1)<30))=true:=by rfl)
  (hline:(apos.endLine == cpos.line)=true:=by rfl) (hst:starEach (e::es) X.env=(false,eval e X.env)::starEach es X.env:=by rfl) (hplain:(backTo cpos (starEach es X.env)).any (·.1)=false:=by rfl) :
  ME X E (.Call (.Attribute o name apos) (e::es) [] cpos) (sML g fo ka):=by
 refine PE.weak (axv PySem.F.plainAttrs_list slot hty hm ho ha hbase hfew hline hst hplain) ?_
 rintro σ H Q ⟨U,τ,h,S,Rh,o⟩
 refine⟨U,τ,h,S,Rh,dg o λd h1 U1 H1 v g1 r1 hr1 o1=>?_⟩
 by_cases hc:isL d h1=true
 .rw[av hc]at o1;refine⟨au3 r1 hr1 hc,U1,τ,h1,S.mono g1,hr1,dg o1 λds h2 U2 H2 vs g2 r2 hr2 o2=>?_⟩;exact hs E U2 H2 h2 v d vs ds Q (r1.mono g2) r2 hr2 o2
 .rw[aO hc]at o1;exact o1.elim
noncomputable def adt:D->List D->Hd->R D
 |.ref i,[y],h=>(match h[i]? with|some (.lst xs)=>if xs.length<LINE then .ok .non (h.set i (.lst (xs++[y]))) else .no|_=>.no)
 |_,_,_=>.no
theorem ap0:aqx K adt af4:=by
 intro E U H h x dx xs ds Q rx r hr o
 unfold adt at o
 split at o
 .rename_i i y
  cases rx with
  |@ref p _ hp =>
   cases r with
   |cons r1 rs =>
    cases rs
    split at o
    .rename_i xs hx;obtain⟨vs,h3,h4⟩:=hr.lst hp hx
     split at o
     .rename_i hc;exact⟨p,vs,_,rfl,rfl,h3,by rw[h4.len,axz];exact hc,aam (h4.snoc r1) hr hp .non o⟩
     .exact o.elim
    .exact o.elim
 .exact o.elim
noncomputable def sMS(g:D->List D->Hd->R D)(f:SE)(k:SA):SE:=λτ h=>(f τ h).bind λd h1=>match d with|.str z=>(k τ h1).bind λds h2=>g (.str z) ds h2|_=>.no
theorem au5(slot:Slot "str" name idn)(hty:typeOf (.builtin idn)=pure (.type "method_descriptor"))(hm:MtR X idn r)(hs:aqx X.K g r)(ho:ME X E o fo)(ha:MA X E (e::es) ka)
  (hbase:attributeBase o name X.env (eval o X.env)=eval o X.env:=by rfl)
  (hfew:((backTo cpos (starEach (e::es) X.env)).all (λx => !x.1) && (backToKw cpos (keywordEach [] X.env)).all (λx=>x.1.isSome)
   && decide ((e::es).length+([]:List Keyword).length+(if ([]:List Keyword).isEmpty then 0 else 1)<30))=true:=by rfl)
  (hline:(apos.endLine == cpos.line)=true:=by rfl) (hst:starEach (e::es) X.env=(false,eval e X.env)::starEach es X.env:=by rfl) (hplain:(backTo cpos (starEach es X.env)).any (·.1)=false:=by rfl) :
  ME X E (.Call (.Attribute o name apos) (e::es) [] cpos) (sMS g fo ka):=by
 refine PE.weak (ay1 slot hty hm ho ha hbase hfew hline hst hplain) ?_
 rintro σ H Q ⟨U,τ,h,S,Rh,o⟩
 refine⟨U,τ,h,S,Rh,dg o λd h1 U1 H1 v g1 r1 hr1 o1=>?_⟩
 cases r1 with
 |str z=>exact⟨⟨z,rfl⟩,U1,τ,h1,S.mono g1,hr1,dg o1 λds h2 U2 H2 vs g2 r2 hr2 o2=>hs E U2 H2 h2 _ _ vs ds Q (.str z) r2 hr2 o2⟩
 |_=>exact o1.elim
noncomputable def ac6:D->List D->Hd->R D
 |.str T,[.str z],h=>(match z.cps.toList with|[c]=>if c∈T.cps.toList then .ok (.int (aai T c)) h else .no|_=>.no)
 |_,_,_=>.no
theorem afy:aqx K ac6 (λx xs H Q=>∃T c,x=.str T/\xs=[.str ⟨#[c]⟩]/\c∈T.cps.toList/\Q (.int (aai T c)) H):=by
 intro E U H h x dx xs ds Q rx r hr o
 unfold ac6 at o
 split at o
 .cases rx
  cases r with
  |cons r1 rs =>
   cases r1;cases rs
   split at o
   .rename_i c hz
    split at o
    .rename_i hc;exact⟨_,c,rfl,by rw[one_sign hz],hc,ans o (.int _) hr⟩
    .exact o.elim
   .exact o.elim
 .exact o.elim
noncomputable def aar:List D->Option (List Str)
 |[]=>some []
 |.str z::r=>(aar r).map (z::·)
 |_::_=>none
theorem a7p:∀{vs:List V} {xs:List D} {zs:List Str},Reps K U H vs xs->aar xs=some zs->vs=zs.map V.str
 |_,_,_,.nil,e=>by cases e;rfl
 |_,_,zs,.cons (d:=d) r rs,e=>by
  cases r with
  |str z =>
   simp only[aar,aP]at e;obtain⟨ws,h1,rfl⟩:=e;rw[a7p rs h1];rfl
  |_=>cases e
noncomputable def adu:D->List D->Hd->R D
 |.str sep,[.ref i],h=>(match h[i]? with|some (.lst xs)=>(match aar xs with|some zs=>if (zs.map (·.length)).sum+zs.length*sep.length<=16777216 then .ok (.str (Txt.join sep zs)) h else .no|none=>.no)|_=>.no)
 |.str sep,[.rol xs],h=>(match aar xs with|some zs=>if (zs.map (·.length)).sum+zs.length*sep.length<=16777216 then .ok (.str (Txt.join sep zs)) h else .no|none=>.no)
 |_,_,_=>.no
theorem ajl:aqx K adu (λx xs H Q=>∃sep p zs,x=.str sep/\xs=[.ref p]/\SqL K H p (zs.map V.str)/\(zs.map (·.length)).sum+zs.length*sep.length<=16777216/\Q (.str (Txt.join sep zs)) H):=by
 intro E U H h x dx xs ds Q rx r hr o
 unfold adu at o
 split at o
 .rename_i sep i;cases rx
  cases r with
  |cons r1 rs =>
   cases rs
   cases r1 with
   |@ref p _ hp =>
    split at o
    .rename_i xs hx;obtain⟨vs,h3,h4⟩:=hr.lst hp hx
     split at o
     .rename_i zs hz
      split at o
      .rename_i hc;exact⟨sep,p,zs,rfl,rfl,SqL.of (by rw[h3,a7p h4 hz]),hc,ans o (.str _) hr⟩
      .exact o.elim
     .exact o.elim
    .exact o.elim
 .rename_i sep xs;cases rx
  cases r with
  |cons r1 rs =>
   cases rs
   cases r1 with
   |@rol p vs xs hp r =>
    split at o
    .rename_i zs hz
     split at o
     .rename_i hc;exact⟨sep,p,zs,rfl,rfl,by rw[<-a7p r hz];exact hp.l,hc,ans o (.str _) hr⟩
     .exact o.elim
    .exact o.elim
 .exact o.elim
noncomputable def a2j:List D->Hd->R D
 |[.str z],h=>if z.length<=LINE then .ok (.ref h.length) (h++[.lst (a04 z)]) else .no
 |[x],h=>(match xn x h with|some xs=>.ok (.ref h.length) (h++[.lst xs])|none=>.no)
 |_,_=>.no
theorem a70(z:Str):Reps K U H (a0x z) (a04 z):=by
 unfold a0x a04
 induction z.cps.toList with
 |nil=>exact .nil
 |cons c cs ih=>exact .cons (.str _) ih
theorem ajm:abx K a2j (λxs H Q=>(∃p ys,xs=[.ref p]/\(SqL K H p ys\/SqT K H p ys)/\∀l,H l=none->Q (.ref l) (upd H l (.lst ys)))\/∃z,xs=[.str z]/\z.length<=sizeLine/\∀l,H l=none->Q (.ref l) (upd H l (.lst (a0x z)))):=by
 intro E U H h xs ds Q r hr o
 cases r with
 |nil=>exact o.elim
 |cons r rs =>
  cases rs with
  |cons _ _=>exact(show False by cases r<;>exact o).elim
  |nil =>
   cases r with
   |str z =>
    by_cases hc:z.length<=LINE
    .simp only[a2j,av hc]at o;exact .inr ⟨z,rfl,ll hc,vq (a70 z) hr o⟩
    .simp only[a2j,aO hc]at o;exact o.elim
   |@tup p vs xs hp r=>simp only[a2j,xn]at o;exact .inl ⟨p,vs,rfl,.inr (SqT.of hp),vq r hr o⟩
   |@rol p vs xs hp r=>simp only[a2j,xn]at o;exact .inl ⟨p,vs,rfl,.inl hp.l,vq r hr o⟩
   |@ref p j hp =>
    obtain⟨ob,e1,e2⟩:=hr.at hp
    cases ob with
    |lst xs =>
     simp only[a2j,xn,e1]at o;obtain⟨vs,h3,h4⟩:=e2;exact .inl ⟨p,vs,rfl,.inl (SqL.of h3),vq h4 hr o⟩
    |dK _=>simp only[a2j,xn,e1]at o;exact o.elim
    |dT _=>simp only[a2j,xn,e1]at o;exact o.elim
    |ins _ _=>simp only[a2j,xn,e1]at o;exact o.elim
    |dN _=>simp only[a2j,xn,e1]at o;exact o.elim
   |_=>exact o.elim
noncomputable def u5:List D->Hd->R D
 |[.str z],h=>if z.length<=LINE then .ok (.tup (a04 z)) h else .no
 |[x],h=>(match xn x h with|some xs=>.ok (.tup xs) h|none=>.no)
 |_,_=>.no
theorem afz:abx K u5 (λxs H Q=>(∃p ys,xs=[.ref p]/\((SqL K H p ys/\∀l,H l=none->Q (.ref l) (upd H l (.tup ys)))\/(SqT K H p ys/\Q (.ref p) H)))\/∃z,xs=[.str z]/\z.length<=sizeLine/\∀l,H l=none->Q (.ref l) (upd H l (.tup (a0x z)))):=by
 intro E U H h xs ds Q r hr o
 cases r with
 |nil=>exact o.elim
 |cons r rs =>
  cases rs with
  |cons _ _=>exact(show False by cases r<;>exact o).elim
  |nil =>
   cases r with
   |str z =>
    by_cases hc:z.length<=LINE
    .simp only[u5,av hc]at o;exact .inr ⟨z,rfl,ll hc,a0r (a70 z) hr o⟩
    .simp only[u5,aO hc]at o;exact o.elim
   |@tup p vs xs hp r=>simp only[u5,xn]at o;exact .inl ⟨p,vs,rfl,.inr ⟨SqT.of hp,ans o (.tup hp r) hr⟩⟩
   |@rol p vs xs hp r=>simp only[u5,xn]at o;exact .inl ⟨p,vs,rfl,.inl ⟨hp.l,a0r r hr o⟩⟩
   |@ref p j hp =>
    obtain⟨ob,e1,e2⟩:=hr.at hp
    cases ob with
    |lst xs =>
     simp only[u5,xn,e1]at o;obtain⟨vs,h3,h4⟩:=e2;exact .inl ⟨p,vs,rfl,.inl ⟨SqL.of h3,a0r h4 hr o⟩⟩
    |dK _=>simp only[u5,xn,e1]at o;exact o.elim
    |dT _=>simp only[u5,xn,e1]at o;exact o.elim
    |ins _ _=>simp only[u5,xn,e1]at o;exact o.elim
    |dN _=>simp only[u5,xn,e1]at o;exact o.elim
   |_=>exact o.elim
noncomputable def ap1:List D->Option (List Bool)
 |[]=>some []
 |.bl z::r=>(ap1 r).map (z::·)
 |_::_=>none
noncomputable def a96:List D->Option (List Int)
 |[]=>some []
 |.int z::r=>(a96 r).map (z::·)
 |_::_=>none
theorem aas:∀{vs:List V} {xs:List D} {zs:List Bool},Reps K U H vs xs->ap1 xs=some zs->vs=zs.map V.bl
 |_,_,_,.nil,e=>by cases e;rfl
 |_,_,zs,.cons (d:=d) r rs,e=>by
  cases r with
  |bl z =>
   simp only[ap1,aP]at e;obtain⟨ws,h1,rfl⟩:=e;rw[aas rs h1];rfl
  |_=>cases e
theorem a7q:∀{vs:List V} {xs:List D} {zs:List Int},Reps K U H vs xs->a96 xs=some zs->vs=zs.map V.int
 |_,_,_,.nil,e=>by cases e;rfl
 |_,_,zs,.cons (d:=d) r rs,e=>by
  cases r with
  |int z =>
   simp only[a96,aP]at e;obtain⟨ws,h1,rfl⟩:=e;rw[a7q rs h1];rfl
  |_=>cases e
theorem ajn(bs:List Bool):ap1 (bs.map D.bl)=some bs:=by
 induction bs with
 |nil=>rfl
 |cons b bs ih=>simp[ap1,ih]
noncomputable def aia:List D->Hd->R D
 |[.ref i],h=>(match h[i]? with|some (.lst xs)=>(match ap1 xs with|some bs=>.ok (.bl (bs.all id)) h|none=>.no)|_=>.no)
 |[.rol xs],h=>(match ap1 xs with|some bs=>.ok (.bl (bs.all id)) h|none=>.no)
 |_,_=>.no
theorem ap2:abx K aia (λxs H Q=>∃(p:Addr) (bs:List Bool),xs=[.ref p]/\SqL K H p (bs.map V.bl)/\Q (.bl (bs.all id)) H):=by
 intro E U H h xs ds Q r hr o
 unfold aia at o
 split at o
 .cases r with
  |cons r rs =>
   cases rs
   cases r with
   |@ref p _ hp =>
    split at o
    .rename_i xs hx;obtain⟨vs,h3,h4⟩:=hr.lst hp hx
     split at o
     .rename_i bs hb;exact⟨p,bs,rfl,SqL.of (by rw[h3,aas h4 hb]),ans o (.bl _) hr⟩
     .exact o.elim
    .exact o.elim
 .cases r with
  |cons r rs =>
   cases rs
   cases r with
   |@rol p vs xs hp r =>
    split at o
    .rename_i bs hb;exact⟨p,bs,rfl,by rw[<-aas r hb];exact hp.l,ans o (.bl _) hr⟩
    .exact o.elim
 .exact o.elim
noncomputable def a71:List D->Hd->R D
 |[.ref i],h=>(match h[i]? with|some (.lst xs)=>(match a96 xs with|some bs=>.ok (.int bs.sum) h|none=>.no)|_=>.no)
 |[.rol xs],h=>(match a96 xs with|some bs=>.ok (.int bs.sum) h|none=>.no)
 |_,_=>.no
theorem ap3:abx K a71 (λxs H Q=>∃(p:Addr) (ns:List Int),xs=[.ref p]/\SqL K H p (ns.map V.int)/\Q (.int ns.sum) H):=by
 intro E U H h xs ds Q r hr o
 unfold a71 at o
 split at o
 .cases r with
  |cons r rs =>
   cases rs
   cases r with
   |@ref p _ hp =>
    split at o
    .rename_i xs hx;obtain⟨vs,h3,h4⟩:=hr.lst hp hx
     split at o
     .rename_i bs hb;exact⟨p,bs,rfl,SqL.of (by rw[h3,a7q h4 hb]),ans o (.int _) hr⟩
     .exact o.elim
    .exact o.elim
 .cases r with
  |cons r rs =>
   cases rs
   cases r with
   |@rol p vs xs hp r =>
    split at o
    .rename_i bs hb;exact⟨p,bs,rfl,by rw[<-a7q r hb];exact hp.l,ans o (.int _) hr⟩
    .exact o.elim
 .exact o.elim
noncomputable def a2u(d:D)(h:Hd):R D:=match d with|.str z=>if z.length<=1000 then .ok (.int ((a4w z.cps.toList).length:Nat)) h else .no|_=>.no
theorem ag0(hc:X.calm=true)(hg1:Gl X "len")(hm1:X.mg "len" = none)(hg2:Gl X "set")(hm2:X.mg "set" = none)(ha:ME X E e fa)
  (h1:starEach [e] X.env=[(false,eval e X.env)]:=by rfl) (h2:starEach [.Call (.Name "set" p2) [e] [] pos2] X.env=[(false,eval (.Call (.Name "set" p2) [e] [] pos2) X.env)]:=by rfl) :
  ME X E (.Call (.Name "len" p1) [.Call (.Name "set" p2) [e] [] pos2] [] pos1) (s1 a2u fa):=by
 have q:=a3i (pos:=pos1) (p:=p1) call_len_set hg1 hm1 afk (uo (a8k (pos:=pos2) (p:=p2) (adi hc) hg2 hm2 ass (uo ha a4s (by rw[h1];rfl)) (by decide) (by decide) (by rw[h1];rfl) rfl) a4s (by rw[h2];rfl)) (by decide) (by decide) (by rw[h2];rfl) rfl
 refine PE.weak q ?_
 rintro σ H Q ⟨U,τ,h,S,Rh,o⟩
 refine⟨U,τ,h,S,Rh,dg o λd h1 U1 H1 v g1 r1 hr1 o1=>?_⟩
 cases r1 with
 |str z =>
  by_cases hz:z.length<=1000
  .simp only[a2u,av hz]at o1;refine⟨z,rfl,hz,λl hl=>⟨l,_,rfl,qe,o1 U1 _ _ (a1e hl _) (.int _) (hr1.aside hl _)⟩⟩
  .simp only[a2u,aO hz]at o1;exact o1.elim
 |_=>exact o1.elim
end
end MI
theorem L2.Room.u(r:L2.Room k A):A.units+64<PySem.cLine:=r.units
namespace MI
open L2
mutual
def eqD:D->D->Bool
 |.non,.non=>true
 |.bl a,.bl b=>a == b
 |.bl a,.int b=>(if a then 1 else 0) == b
 |.int a,.bl b=>a == (if b then 1 else 0)
 |.int a,.int b=>a == b
 |.str a,.str b=>a == b
 |.tup xs,.tup ys=>a97 xs ys
 |_,_=>false
def a97:List D->List D->Bool
 |[],[]=>true
 |x::xs,y::ys=>eqD x y && a97 xs ys
 |_,_=>false
end
noncomputable def pur:Nat->D->Bool
 |_,.non=>true
 |_,.bl _=>true
 |_,.int _=>true
 |_,.str _=>true
 |n+1,.tup xs=>xs.all (pur n)
 |_,_=>false
theorem a98:∀{m:Nat} {d:D},n<=m->pur n d=true->pur m d=true:=by
 induction n with
 |zero=>intro m d _ h;cases d<;>first|(cases m<;>rfl)|(cases h;done)
 |succ n ih =>
  intro m d hm h
  cases m with
  |zero=>omega
  |succ m =>
   cases d with
   |tup xs =>
    simp only[pur,aM]at h ⊢;exact λx hx=>ih (by omega) (h x hx)
   |_=>first|rfl|(cases h;done)
noncomputable def pairE(xs ys:List D)(j:Nat):Bool:=match xs[j]?,ys[j]? with|some x,some y=>eqD x y|_,_=>false
theorem a3p:∀xs ys:List D,((List.range (min xs.length ys.length)).all (pairE xs ys) && xs.length == ys.length)=a97 xs ys
 |[],[]=>by simp[a97]
 |[],_::_=>by simp[a97]
 |_::_,[]=>by simp[a97]
 |x::xs,y::ys=>by
  have ih:=a3p xs ys;rw[show min (x::xs).length (y::ys).length=min xs.length ys.length+1 by simp only[aL];omega,List.range_succ_eq_map]
  rw[bC,dU];have e:(pairE (x::xs) (y::ys) ∘ Nat.succ)=pairE xs ys:=by funext j;simp[pairE]
  rw[e];simp only[a97];rw[<-ih];have e2:((x::xs).length == (y::ys).length)=(xs.length == ys.length):=by simp
  rw[e2,Bool.and_assoc];rfl
section
variable{K:Fg}{U:List Addr}{H:Hp}
theorem a4h{xs:List D}(r:Rep K U H v (.tup xs)):∃a vs,v=.ref a/\H a=some (.tup vs)/\Reps K U H vs xs:=by cases r with|@tup a vs _ h rs=>exact⟨a,vs,rfl,h,rs⟩
theorem aml(r:Rep K U H v d)(q:Rep K U H v e)(f:a03 d=true)(g:a03 e=true):eqD d e=true:=by
 have h:=ajg r f;have h':=ajg q g
 cases d<;>first|(cases h;done)|(cases h;cases e<;>first|(cases h';done)|(cases h';simp[eqD]))
theorem a0i(r:Rep K U H v d)(p:pur n d=true):(∃xs,d=.tup xs)\/(a2o v=true/\a03 d=true):=by
 cases r<;>first|exact .inr ⟨rfl,rfl⟩|exact .inl ⟨_,rfl⟩|(cases n<;>cases p)
theorem a7r(r:Rep K U H x d)(q:Rep K U H y e)(f:a03 d=true)(g:a03 e=true):eqV x y=eqD d e:=by
 refine fvs (P:=λd x c y=>eqV x y=eqD d c) (λd x e y h h'=>?_) r q f g
 cases d<;>first|(cases h;done)|(cases h;cases e<;>first|(cases h';done)|(cases h';first|rfl|(simp[eqV,eqD];done)))
theorem ajo:∀(n:Nat) {v:V} {d e:D},Rep K U H v d->Rep K U H v e->pur n d=true->pur n e=true->eqD d e=true:=by
 intro n
 induction n with
 |zero =>
  intro v d e r q p1 p2
  rcases a0i r p1 with⟨xs,rfl⟩|⟨f1,g1⟩
  .cases p1
  rcases a0i q p2 with⟨xs,rfl⟩|⟨f2,g2⟩
  .cases p2
  exact aml r q g1 g2
 |succ n ih =>
  intro v d e r q p1 p2
  rcases a0i r p1 with⟨xs,rfl⟩|⟨f1,g1⟩
  .rcases a0i q p2 with⟨ys,rfl⟩|⟨f2,g2⟩
   .obtain⟨a,vs,rfl,h,rs⟩:=a4h r;obtain⟨b,us,z,h',qs⟩:=a4h q;cases z
    rw[h]at h';cases h'
    simp only[eqD];simp only[pur,aM]at p1 p2
    clear h r q
    induction rs using Reps.rec (motive_1:=λ_ _ _=>True) generalizing ys with
    |nil=>cases qs;rfl
    |cons r rs _ ih2 =>
     cases qs with
     |cons q qs =>
      simp only[a97,af];exact⟨ih r q (p1 _ (aY ..)) (p2 _ (aY ..)),ih2 _ qs (λx hx=>p1 x (aQ _ hx)) (λx hx=>p2 x (aQ _ hx))⟩
    |_=>trivial
   .obtain⟨a,vs,rfl,h,rs⟩:=a4h r;cases f2
  .rcases a0i q p2 with⟨ys,rfl⟩|⟨f2,g2⟩
   .obtain⟨a,vs,rfl,h,rs⟩:=a4h q;cases f1
   .exact aml r q g1 g2
open SeqAt in
theorem amm{s:Shared}(hok:HOk P w H s.heap):∀(n:Nat) (A:Around) {x y:V} {u v:Value} {d e:D},Rep K U H x d->Rep K U H y e->RelV x u->RelV y v->pur n d=true->pur n e=true->A.units+n<cLine->EqAt A s u v (eqD d e):=by
 intro n
 induction n with
 |zero =>
  intro A x y u v d e r q rx ry p1 p2 hu
  rcases a0i r p1 with⟨xs,rfl⟩|⟨f1,f2⟩
  .cases p1
  .rcases a0i q p2 with⟨xs,rfl⟩|⟨g1,g2⟩
   .cases p2
   .rw[<-a7r r q f2 g2];exact af3 rx ry f1 g1
 |succ n ih =>
  intro A x y u v d e r q rx ry p1 p2 hu
  rcases a0i r p1 with⟨xs,rfl⟩|⟨f1,f2⟩
  .cases r with
   |@tup a vs _ ha rs =>
    cases rx
    obtain⟨_,its,r1,t1⟩:=(Rd.of ha).ok hok;have t1:=t1.r
    rcases a0i q p2 with⟨ys,rfl⟩|⟨g1,g2⟩
    .cases q with
     |@tup b us _ hb qs =>
      cases ry
      obtain⟨_,its2,r2,t2⟩:=(Rd.of hb).ok hok;have t2:=t2.r
      by_cases hab:a=b
      .subst hab;rw[ajo (n+1) (.tup ha rs) (.tup hb qs) p1 p2];exact EqAt.same _
      .have l1:its.toArray.size=xs.length:=by rw[aw,<-r1.length,rs.len]
       have l2:its2.toArray.size=ys.length:=by rw[aw,<-r2.length,qs.len]
       have:=RcAt.tuples (A:=A) (s:=s) (e:=pairE xs ys) t1 t2 (by omega) (λj h1 h2=>by
        have j1:j<xs.length:=by omega
        have j2:j<ys.length:=by omega
        obtain⟨v1,e1,q1⟩:=rs.get (a8 j1);obtain⟨v2,e2,q2⟩:=qs.get (a8 j2);obtain⟨u1,e3,q3⟩:=r1.get e1;obtain⟨u2,e4,q4⟩:=r2.get e2;have f1:its.toArray[j]=u1:=by simpa using (ag.mp e3).2
        have f2:its2.toArray[j]=u2:=by simpa using (ag.mp e4).2
        have pe:pairE xs ys j=eqD xs[j] ys[j]:=by simp[pairE,a8 j1,a8 j2]
        rw[f1,f2,pe];simp only[pur,aM]at p1 p2;exact ih A.in1 q1 q2 q3 q4 (p1 _ (b9 j1)) (p2 _ (b9 j2)) (by rw[eX];omega))
       rw[l1,l2,a3p]at this;exact EqAt.of_refs hab this
    .have e0:eqD (.tup xs) e=false:=by cases e<;>first|rfl|(cases g2;done)
     rw[e0]
     cases y with
     |non=>cases ry;exact EqAt.tuple_none t1 (by omega)
     |bl b=>cases ry;exact EqAt.tuple_bool b t1 (by omega)
     |int b=>obtain⟨t,rfl⟩:=ry;exact EqAt.tuple_int b t t1 (by omega)
     |str b=>obtain⟨t,rfl⟩:=ry;exact EqAt.tuple_str b t t1 (by omega)
     |_=>cases g1
  .rcases a0i q p2 with⟨ys,rfl⟩|⟨g1,g2⟩
   .cases q with
    |@tup b us _ hb qs =>
     cases ry
     obtain⟨_,its2,r2,t2⟩:=(Rd.of hb).ok hok;have t2:=t2.r;have e0:eqD d (.tup ys)=false:=by cases d<;>first|rfl|(cases f2;done)
     rw[e0]
     cases x with
     |non=>cases rx;exact EqAt.none_tuple t2 (by omega)
     |bl b=>cases rx;exact EqAt.bool_tuple b t2 (by omega)
     |int b=>obtain⟨t,rfl⟩:=rx;exact EqAt.int_tuple b t t2 (by omega)
     |str b=>obtain⟨t,rfl⟩:=rx;exact EqAt.str_tuple b t t2 (by omega)
     |_=>cases f1
   .rw[<-a7r r q f2 g2];exact af3 rx ry f1 g1
open SeqAt in
theorem au6(ry:RelV y u)(rx:RelV x v)(fy:a2o y=true)(fx:a2o x=true):RcAt A s u v (eqV y x):=by
 cases y with
 |non =>
  cases ry
  cases x with
  |non=>cases rx;exact RcAt.none_none
  |bl b=>cases rx;exact RcAt.none_bool b
  |int b=>obtain⟨t,rfl⟩:=rx;exact RcAt.none_int b t
  |str b=>obtain⟨t,rfl⟩:=rx;exact RcAt.none_str b t
  |_=>cases fx
 |bl a =>
  cases ry
  cases x with
  |non=>cases rx;exact RcAt.bool_none a
  |bl b=>cases rx;exact RcAt.bool_bool a b
  |int b=>obtain⟨t,rfl⟩:=rx;exact RcAt.bool_int a b t
  |str b=>obtain⟨t,rfl⟩:=rx;exact RcAt.bool_str a b t
  |_=>cases fx
 |int a =>
  obtain⟨t',rfl⟩:=ry
  cases x with
  |non=>cases rx;exact RcAt.int_none a t'
  |bl b=>cases rx;exact RcAt.int_bool a t' b
  |int b=>obtain⟨t,rfl⟩:=rx;exact RcAt.int_int a t' b t
  |str b=>obtain⟨t,rfl⟩:=rx;exact RcAt.int_str a t' b t
  |_=>cases fx
 |str a =>
  obtain⟨t',rfl⟩:=ry
  cases x with
  |non=>cases rx;exact RcAt.str_none a t'
  |bl b=>cases rx;exact RcAt.str_bool a t' b
  |int b=>obtain⟨t,rfl⟩:=rx;exact RcAt.str_int a t' b t
  |str b=>obtain⟨t,rfl⟩:=rx;exact RcAt.str_str a t' b t
  |_=>cases fx
 |_=>cases fy
open SeqAt in
theorem ajp(ry:RelV y u)(rx:RelV x v)(fy:a2o y=true)(fx:a2o x=true):RcNeAt A s u v (!eqV y x):=by
 cases y with
 |non =>
  cases ry
  cases x with
  |non=>cases rx;exact RcNeAt.none_none
  |bl b=>cases rx;exact RcNeAt.none_bool b
  |int b=>obtain⟨t,rfl⟩:=rx;exact RcNeAt.none_int b t
  |str b=>obtain⟨t,rfl⟩:=rx;exact RcNeAt.none_str b t
  |_=>cases fx
 |bl a =>
  cases ry
  cases x with
  |non=>cases rx;exact RcNeAt.bool_none a
  |bl b=>cases rx;exact RcNeAt.bool_bool a b
  |int b=>obtain⟨t,rfl⟩:=rx;exact RcNeAt.bool_int a b t
  |str b=>obtain⟨t,rfl⟩:=rx;exact RcNeAt.bool_str a b t
  |_=>cases fx
 |int a =>
  obtain⟨t',rfl⟩:=ry
  cases x with
  |non=>cases rx;exact RcNeAt.int_none a t'
  |bl b=>cases rx;exact RcNeAt.int_bool a t' b
  |int b=>obtain⟨t,rfl⟩:=rx;exact RcNeAt.int_int a t' b t
  |str b=>obtain⟨t,rfl⟩:=rx;exact RcNeAt.int_str a t' b t
  |_=>cases fx
 |str a =>
  obtain⟨t',rfl⟩:=ry
  cases x with
  |non=>cases rx;exact RcNeAt.str_none a t'
  |bl b=>cases rx;exact RcNeAt.str_bool a t' b
  |int b=>obtain⟨t,rfl⟩:=rx;exact RcNeAt.str_int a t' b t
  |str b=>obtain⟨t,rfl⟩:=rx;exact RcNeAt.str_str a t' b t
  |_=>cases fx
 |_=>cases fy
open SeqAt in
theorem tops{s:Shared}{A:Around}(hok:HOk P w H s.heap)(r:Rep K U H x d)(q:Rep K U H y e)(rx:RelV x u)(ry:RelV y v)(p1:pur 60 d=true)(p2:pur 60 e=true)(hu:A.units+64<cLine) :
  RcAt A s u v (eqD d e)/\RcNeAt A s u v (!eqD d e):=by
 rcases a0i r p1 with⟨xs,rfl⟩|⟨f1,f2⟩
 .cases r with
  |@tup a vs _ ha rs =>
   cases rx
   obtain⟨_,its,r1,t1⟩:=(Rd.of ha).ok hok;have t1:=t1.r
   rcases a0i q p2 with⟨ys,rfl⟩|⟨g1,g2⟩
   .cases q with
    |@tup b us _ hb qs =>
     cases ry
     obtain⟨_,its2,r2,t2⟩:=(Rd.of hb).ok hok;have t2:=t2.r;have l1:its.toArray.size=xs.length:=by rw[aw,<-r1.length,rs.len]
     have l2:its2.toArray.size=ys.length:=by rw[aw,<-r2.length,qs.len]
     have step:∀j (h1:j<its.toArray.size) (h2:j<its2.toArray.size),EqAt A.in1 s its.toArray[j] its2.toArray[j] (pairE xs ys j):=λj h1 h2=>by
      have j1:j<xs.length:=by omega
      have j2:j<ys.length:=by omega
      obtain⟨v1,e1,q1⟩:=rs.get (a8 j1);obtain⟨v2,e2,q2⟩:=qs.get (a8 j2);obtain⟨u1,e3,q3⟩:=r1.get e1;obtain⟨u2,e4,q4⟩:=r2.get e2;have f1:its.toArray[j]=u1:=by simpa using (ag.mp e3).2
      have f2:its2.toArray[j]=u2:=by simpa using (ag.mp e4).2
      have pe:pairE xs ys j=eqD xs[j] ys[j]:=by simp[pairE,a8 j1,a8 j2]
      rw[f1,f2,pe];simp only[pur,aM]at p1 p2;exact amm hok 59 A.in1 q1 q2 q3 q4 (p1 _ (b9 j1)) (p2 _ (b9 j2)) (by rw[eX];omega)
     have c1:=RcAt.tuples (A:=A) (s:=s) (e:=pairE xs ys) t1 t2 (by omega) step
     have c2:=RcNeAt.tuples (A:=A) (s:=s) (e:=pairE xs ys) t1 t2 (by omega) step
     rw[l1,l2,a3p]at c1 c2;exact⟨c1,c2⟩
   .have e0:eqD (.tup xs) e=false:=by cases e<;>first|rfl|(cases g2;done)
    rw[e0]
    cases y with
    |non=>cases ry;exact⟨RcAt.tuple_none t1 (by omega),RcNeAt.tuple_none t1 (by omega)⟩
    |bl b=>cases ry;exact⟨RcAt.tuple_bool b t1 (by omega),RcNeAt.tuple_bool b t1 (by omega)⟩
    |int b=>obtain⟨t,rfl⟩:=ry;exact⟨RcAt.tuple_int b t t1 (by omega),RcNeAt.tuple_int b t t1 (by omega)⟩
    |str b=>obtain⟨t,rfl⟩:=ry;exact⟨RcAt.tuple_str b t t1 (by omega),RcNeAt.tuple_str b t t1 (by omega)⟩
    |_=>cases g1
 .rcases a0i q p2 with⟨ys,rfl⟩|⟨g1,g2⟩
  .cases q with
   |@tup b us _ hb qs =>
    cases ry
    obtain⟨_,its2,r2,t2⟩:=(Rd.of hb).ok hok;have t2:=t2.r;have e0:eqD d (.tup ys)=false:=by cases d<;>first|rfl|(cases f2;done)
    rw[e0]
    cases x with
    |non=>cases rx;exact⟨RcAt.none_tuple t2 (by omega),RcNeAt.none_tuple t2 (by omega)⟩
    |bl b=>cases rx;exact⟨RcAt.bool_tuple b t2 (by omega),RcNeAt.bool_tuple b t2 (by omega)⟩
    |int b=>obtain⟨t,rfl⟩:=rx;exact⟨RcAt.int_tuple b t t2 (by omega),RcNeAt.int_tuple b t t2 (by omega)⟩
    |str b=>obtain⟨t,rfl⟩:=rx;exact⟨RcAt.str_tuple b t t2 (by omega),RcNeAt.str_tuple b t t2 (by omega)⟩
    |_=>cases f1
  .rw[<-a7r r q f2 g2];exact⟨au6 rx ry f1 g1,ajp rx ry f1 g1⟩
noncomputable def azl(K:Fg):R2:=λx y H Q=>∃U d e,Rep K U H x d/\Rep K U H y e/\pur 60 d=true/\pur 60 e=true/\Q (.bl (eqD d e)) H
noncomputable def azm(K:Fg):R2:=λx y H Q=>∃U d e,Rep K U H x d/\Rep K U H y e/\pur 60 d=true/\pur 60 e=true/\Q (.bl (!eqD d e)) H
theorem amn{X:Cx}(hu:X.A.units+64<cLine):OpR X (compareOp .Eq) (azl X.K):=by
 intro aA s σ H x y v u Q I rx ry h
 obtain⟨U,d,e,r,q,p1,p2,hq⟩:=h;exact(tops (A:=X.A) I.hok r q rx ry p1 p2 hu).1 X.prog X.w X.xe _ ⟨.bl _,H,I,rfl,hq⟩
theorem amo{X:Cx}(hu:X.A.units+64<cLine):OpR X (compareOp .NotEq) (azm X.K):=by
 intro aA s σ H x y v u Q I rx ry h
 obtain⟨U,d,e,r,q,p1,p2,hq⟩:=h;exact(tops (A:=X.A) I.hok r q rx ry p1 p2 hu).2 X.prog X.w X.xe _ ⟨.bl _,H,I,rfl,hq⟩
noncomputable def hEq(x y:D)(h:Hd):R D:=if pur 60 x=true/\pur 60 y=true then .ok (.bl (eqD x y)) h else .no
noncomputable def hNe(x y:D)(h:Hd):R D:=if pur 60 x=true/\pur 60 y=true then .ok (.bl (!eqD x y)) h else .no
theorem ag1:a01 K hEq (azl K):=by
 intro E U H h x y dx dy Q rx ry hr o
 unfold hEq at o
 split at o
 .rename_i hc;exact⟨U,dx,dy,rx,ry,hc.1,hc.2,ans o (.bl _) hr⟩
 .exact o.elim
theorem ag2:a01 K hNe (azm K):=by
 intro E U H h x y dx dy Q rx ry hr o
 unfold hNe at o
 split at o
 .rename_i hc;exact⟨U,dx,dy,rx,ry,hc.1,hc.2,ans o (.bl _) hr⟩
 .exact o.elim
end
section
variable{X:Cx}{E:XD}{K:Fg}
noncomputable def a7s:SE:=λ_ h=>.ok (.ref h.length) (h++[.dK []])
theorem ap4:ME X E (.Dict [] [] pos) a7s:=by
 refine PE.weak aj0 λσ H Q ⟨U,τ,h,S,Rh,o⟩=>λp hp=>?_;exact o (U++[p]) _ _ (abw hp _) (.ref (by rw[aN (by rw[Rh.len];exact a9 _),Rh.len];simp)) (Rh.add hp ⟨[],qe,rfl,.nil⟩)
noncomputable def a1h:D->D->Hd->R D
 |.int i,.int j,h=>.ok (.int (i+j)) h
 |.str x,.str y,h=>if x.length+y.length<=LINE then .ok (.str (x++y)) h else .no
 |_,_,_=>.no
theorem ac8:a01 K a1h (λx y H Q=>rI0 (λi j=>.int (i+j)) x y H Q\/∃i j,x=.str i/\y=.str j/\i.length+j.length<=sizeLine/\Q (.str (i++j)) H):=by
 intro E U H h x y dx dy Q rx ry hr o
 cases rx with
 |int i =>
  cases ry with
  |int j=>exact .inl ⟨i,j,rfl,rfl,ans o (.int _) hr⟩
  |_=>exact o.elim
 |str i =>
  cases ry with
  |str j =>
   by_cases hc:i.length+j.length<=LINE
   .simp only[a1h,av hc]at o;exact .inr ⟨i,j,rfl,rfl,ll hc,ans o (.str _) hr⟩
   .simp only[a1h,aO hc]at o;exact o.elim
  |_=>exact o.elim
 |_=>exact o.elim
theorem au7:bootBuiltins "max" = some (.builtin "max"):=by first|exact PySem.boot_max|exact PyProof.Rows.boot_max
theorem ap5:bootBuiltins "bool" = some (.type "bool"):=by first|exact PySem.boot_bool|exact PyProof.Rows.boot_bool
theorem au8:bootBuiltins "sum" = some (.builtin "sum"):=by first|exact PySem.boot_sum|exact PyProof.Rows.boot_sum
theorem ajq(h1:MG X E e g)(h2:MGs X E es ks)(hs:(assignEach (e::es) X.env).map (·.2)=assign e X.env::(assignEach es X.env).map (·.2):=by rfl):MGs X E (e::es) (a2s g ks) :=
 PGs.weak (a3g h1 h2 hs) λvs σ H Q q=>ajd q
end
end MI
namespace ZP
open PySem.Builtin PySem.Builtin.SmallTypes
section
variable{prog:Program}{w:World}{A:Around}{E:Value->Shared->Prop}{s:Shared}{z TI TO i1 i2:Addr}{p q:List Addr}{n1 n2 k:Nat}{P1 P2:Nat->Value->Prop}{S1 S2:Nat->Heap->Prop}{a b:Value}
theorem far{D:Draws prog w A i1 p n1 P1 S1}(sb:Heap.SameBut c h h')(nc:c∉p)(st:S1 k h):S1 k h':=D.frame _ _ _ st λx hx o e=>sb.extBut x o (λy=>nc (y ▸ hx)) e
end
end ZP
namespace MI
open L2 ZP
def srcOf(d:D)(h:Hd):Option (List D×(Hd->Prop)):=match d with
 |.tup xs=>some (xs,λ_=>True)
 |.rol xs=>some (xs,λ_=>True)
 |.str x=>some (a04 x,λ_=>True)
 |.ref i=>(match h[i]? with|some (.lst xs)=>some (xs,λh=>h[i]? = some (.lst xs))|_=>none)
 |_=>none
noncomputable def ay9(x y:D)(h:Hd):R Itm:=match srcOf x h,srcOf y h with
 |some (xs,c1),some (ys,c2)=>.ok ⟨(xs.zip ys).map λp=>.tup [p.1,p.2],λh=>c1 h/\c2 h⟩ h
 |_,_=>.no
noncomputable def azn(f g:SE):SI:=λτ h=>(f τ h).bind λx h1=>(g τ h1).bind λy h2=>ay9 x y h2
end MI
namespace MI
open L2
section
variable{P:Program}{w:World}{K:Fg}{mg:Str->Option Value}{base:Heap}
theorem aat:FnOk P w K mg base CX0 k f fd ps (a0h K ps.length λ_ _=>.no) :=
 ⟨λvs H Q E h=>h.1,λA outer s H args us vs Q E hr he hb hv hs=>by obtain⟨_,U,ds,h,_,_,o⟩:=hs;exact o.elim⟩
end
def FrzOf(L:List Addr)(H H2:Hp):Prop:=∀a,(a∉L->H2 a=H a)/\(a∈L->∃o u,H a=some u/\H2 a=some (.frz o u))
def a99(H:Hp)(L:List Addr):Prop:=∀a∈L,(∃xs,H a=some (.lst xs))\/(∃kvs,H a=some (.dK kvs))\/(∃kvs,H a=some (.dT kvs))\/(∃C dx fs,H a=some (.ins C dx fs))\/∃φ,H a=some (.ext φ)
def still:HO->Prop
 |.lst _=>False|.dK _=>False|.dT _=>False|.ins _ _ _=>False|.ext _=>False
 |_=>True
theorem FrzOf.still(f:FrzOf L H H2)(ab:a99 H L)(e:H a=some u)(st:MI.still u):H2 a=some u:=by
 rw[(f a).1 λz=>?_]
 .exact e
 .rcases ab a z with⟨_,q⟩|⟨_,q⟩|⟨_,q⟩|⟨_,_,_,q⟩|⟨_,q⟩<;>(rw[e]at q;cases q;exact st)
theorem Inv.frz{X:Cx}{aA:List (Addr×Obj)}{σ:St}{H:Hp}{s:Shared}{L:List Addr}(I:Inv X aA σ H s)(ab:a99 H L):∃H2,FrzOf L H H2/\Inv X aA σ H2 s:=by
 have obj:∀a∈L,∀u,H a=some u->∃o,s.heap.get? a=some o:=λa ha u e=>by
  rcases ab a ha with⟨_,q⟩|⟨_,q⟩|⟨_,q⟩|⟨_,_,_,q⟩|⟨_,q⟩
  .obtain⟨_,_,_,_,z⟩:=I.hok a _ q;exact⟨_,z⟩
  .obtain⟨_,_,_,_,z⟩:=I.hok a _ q;obtain⟨o,_,_,z,_⟩:=z;exact⟨o,z⟩
  .obtain⟨_,_,_,_,o,_,_,z,_⟩:=I.hok a _ q;exact⟨o,z⟩
  .obtain⟨_,_,_,z,_⟩:=I.hok a _ q;exact⟨_,z⟩
  .obtain⟨_,z,_⟩:=I.hok a _ q;exact z
 let H2:Hp:=λa=>if a∈L then (match s.heap.get? a,H a with|some o,some u=>some (.frz o u)|_,w=>w) else H a
 have f:FrzOf L H H2:=λa=>⟨λh=>by simp[H2,h],λh=>by
  obtain⟨u,e⟩:∃u,H a=some u:=by
   rcases ab a h with⟨_,q⟩|⟨_,q⟩|⟨_,q⟩|⟨_,_,_,q⟩|⟨_,q⟩<;>exact⟨_,q⟩
  obtain⟨o,eo⟩:=obj a h u e;exact⟨o,u,e,by simp[H2,h,e,eo]⟩⟩
 refine⟨H2,f,?_⟩;have mv:∀a u,ObjOk X.prog X.w H s.heap a u->ObjOk X.prog X.w H2 s.heap a u:=λa u x=>x.stay (λb v _ q=>q) (λc q=>f.still ab q True.intro) λc xs q=>f.still ab q True.intro;have ok:HOk X.prog X.w H2 s.heap:=λa u e=>by
  by_cases hl:a∈L
  .obtain⟨u0,e0⟩:∃u,H a=some u:=by
    rcases ab a hl with⟨_,q⟩|⟨_,q⟩|⟨_,q⟩|⟨_,_,_,q⟩|⟨_,q⟩<;>exact⟨_,q⟩
   obtain⟨o,eo⟩:=obj a hl u0 e0;have e':H2 a=some (.frz o u0):=by simp[H2,hl,e0,eo]
   rw[e']at e;cases e
   exact⟨eo,mv a u0 (I.hok a u0 e0)⟩
  .rw[(f a).1 hl]at e;exact mv a u (I.hok a u e)
 have fn:∀b,H b=none->H2 b=none:=λb n=>by
  rw[(f b).1 λz=>?_]
  .exact n
  .rcases ab b z with⟨_,q⟩|⟨_,q⟩|⟨_,q⟩|⟨_,_,_,q⟩|⟨_,q⟩<;>(rw[n]at q;cases q)
 have un:Un X.fs [] H H2 s.heap s.heap:=⟨λb o q _ _ _=>q,λb o q _ _ _=>⟨o.slots,q⟩,λb o _ n _=>fn b n,λb o q _=>⟨o,q⟩,λb xs q=>f.still ab q True.intro,λb o u q=>f.still ab q True.intro,λb ps q=>⟨#[],by rw[f.still ab q True.intro];simp⟩⟩
 exact I.un (t':=s.toks) un ok
theorem aca(h:PE X e t):PE X e (λσ H Q=>t σ H λv H1=>∃L,a99 H1 L/\∀H2,FrzOf L H1 H2->Q v H2):=λaA s σ H Q I q =>
 thn (h aA s σ H _ I q) λu s' ⟨v,H1,I1,r,L,ab,k⟩=>let ⟨H2,f,I2⟩:=Inv.frz I1 ab; ⟨v,H2,I2,r,k H2 f⟩
noncomputable def a1a{α β:Type}(f:α->Option β):List α->Option (List β)
 |[]=>some []
 |x::xs=>match f x,a1a f xs with|some y,some ys=>some (y::ys)|_,_=>none
open Classical in
def a5u(n:Nat)(h:Hd):Nat->D->Option D
 |0,_=>none
 |k+1,d=>if clo n d then some d else match d with
  |.tup xs=>(a1a (a5u n h k) xs).map .tup
  |.rol xs=>(a1a (a5u n h k) xs).map .rol
  |.scr xs=>(a1a (a5u n h k) xs).map .scr
  |.rod ks xs=>(a1a (a5u n h k) xs).map (.rod ks)
  |.rdT ks xs=>(a1a (a5u n h k) xs).map (.rdT ks)
  |.ins c ks xs=>(a1a (a5u n h k) xs).map (.ins c ks)
  |.ref i=>match h[i]? with
   |some (.lst xs)=>(a1a (a5u n h k) xs).map .rol
   |some (.dK kvs)=>(a1a (a5u n h k) (kvs.map (·.2))).map (.rod (kvs.map (·.1)))
   |some (.dT kvs)=>(a1a (a5u n h k) (kvs.map (·.2))).map (.rdT (kvs.map (·.1)))
   |some (.ins c kvs)=>(a1a (a5u n h k) (kvs.map (·.2))).map (.ins c (kvs.map (·.1)))
   |some (.dN _)=>none
   |none=>none
  |_=>none
open Classical in
def au9(n:Nat)(h:Hd)(k:Nat)(o:O):Option O:=if yc n o then some o else match o with
 |.lst xs=>(a1a (a5u n h k) xs).map .lst
 |.dK kvs=>(a1a (a5u n h k) (kvs.map (·.2))).map λys=>.dK ((kvs.map (·.1)).zip ys)
 |.dT kvs=>(a1a (a5u n h k) (kvs.map (·.2))).map λys=>.dT ((kvs.map (·.1)).zip ys)
 |.ins c kvs=>(a1a (a5u n h k) (kvs.map (·.2))).map λys=>.ins c ((kvs.map (·.1)).zip ys)
 |.dN _=>none
abbrev FU:Nat:=20
def a9a(n:Nat):R D->R D
 |.ok d h1=>match a5u n h1 FU d,a1a (au9 n h1 FU) (h1.take n) with|some d',some g=>.ok d' g|_,_=>.no
 |_=>.no
open Classical in
def aqy(n:Nat):R D->R D
 | .ok (.ref i) h1=>(match h1[i]? with
   |some o=>if n<=i/\yc n o/\∀u∈h1.take n,yc n u then .ok (.ref n) (h1.take n++[o]) else .no
   |none=>.no)
 |_=>.no
section
variable{K:Fg}{U U':List Addr}{H H' H2:Hp}{h1:Hd}{n:Nat}{L:List Addr}
theorem acb(f:FrzOf L H' H2)(ab:a99 H' L)(κ:List Addr):Gw κ H' κ H2:=⟨⟨[],by simp⟩,λa vs e=>f.still ab e True.intro,λa o u e=>f.still ab e True.intro⟩
theorem kh(ih:∀{v d d'},Rep K U H v d->f d=some d'->Rep K κ H2 v d'):∀{vs:List V} {ds ds':List D},Reps K U H vs ds->a1a f ds=some ds'->Reps K κ H2 vs ds'
 |_,_,_,.nil,e=>by cases e;exact .nil
 |_,x::xs,_,.cons r rs,e=>by
  unfold a1a at e
  split at e
  .rename_i y ys h1 h2;cases e
   exact .cons (ih r h1) (kh ih rs h2)
  .cases e
theorem a5v(hr:HRep K U' H' h1)(hL:∀(i:Nat) a,U'[i]? = some a->n<=i->a∈L)(f:FrzOf L H' H2)(ab:a99 H' L):∀(k:Nat) {v:V} {d d':D},Rep K U' H' v d->a5u n h1 k d=some d'->Rep K (U'.take n) H2 v d':=by
 intro k
 induction k with
 |zero=>intro v d d' r e;cases e
 |succ k ih =>
  intro v d d' r e
  unfold a5u at e
  split at e
  .rename_i c;cases e
   exact(r.cut c).monoW (acb f ab _)
  .rename_i c
   cases r with
   |tup h rs =>
    simp only[aP]at e;obtain⟨ys,e1,rfl⟩:=e;exact .tup (f.still ab h True.intro) (kh (λr e=>ih r e) rs e1)
   |rol h rs =>
    simp only[aP]at e;obtain⟨ys,e1,rfl⟩:=e;exact .rol (h.monoW (acb f ab U')) (kh (λr e=>ih r e) rs e1)
   |scr h rs =>
    simp only[aP]at e;obtain⟨ys,e1,rfl⟩:=e;exact .scr (h.monoW (acb f ab U')) (kh (λr e=>ih r e) rs e1)
   |rod h ek rs =>
    simp only[aP]at e;obtain⟨ys,e1,rfl⟩:=e;exact .rod (f.still ab h True.intro) ek (kh (λr e=>ih r e) rs e1)
   |rdT h ek rs =>
    simp only[aP]at e;obtain⟨ys,e1,rfl⟩:=e;exact .rdT (f.still ab h True.intro) ek (kh (λr e=>ih r e) rs e1)
   |@ref a i ha =>
    have hi:n<=i:=by
     simp only[clo]at c;omega
    obtain⟨o,u,e1,e2⟩:=(f a).2 (hL i a ha hi);obtain⟨ob,h3,h4⟩:=hr.at ha;simp only[h3]at e
    cases ob with
    |lst xs =>
     simp only[aP]at e;obtain⟨ys,e3,rfl⟩:=e;obtain⟨vs,h5,h6⟩:=h4;rw[e1]at h5;cases h5
     exact .rol ⟨o,e2⟩ (kh (λr e=>ih r e) h6 e3)
    |dK kvs =>
     simp only[aP]at e;obtain⟨ys,e3,rfl⟩:=e;obtain⟨us,h5,h6,h7⟩:=h4;rw[e1]at h5;cases h5
     exact .rod e2 h6 (kh (λr e=>ih r e) h7 e3)
    |dT kvs =>
     simp only[aP]at e;obtain⟨ys,e3,rfl⟩:=e;obtain⟨us,h5,h6,h7⟩:=h4;rw[e1]at h5;cases h5
     exact .rdT e2 h6 (kh (λr e=>ih r e) h7 e3)
    |ins c kvs =>
     simp only[aP]at e;obtain⟨ys,e3,rfl⟩:=e;obtain⟨C,dx,us,h5,hn,h6,h7⟩:=h4;rw[e1]at h5;cases h5
     exact .ins e2 hn h6 (kh (λr e=>ih r e) h7 e3)
    |dN _=>cases e
   |non=>simp only[clo,dD]at c
   |exc _ _ _=>simp only[clo,dD]at c
   |ins h hn ek rs =>
    simp only[aP]at e;obtain⟨ys,e1,rfl⟩:=e;exact .ins (f.still ab h True.intro) hn ek (kh (λr e=>ih r e) rs e1)
   |bl b=>simp only[clo,dD]at c
   |int b=>simp only[clo,dD]at c
   |str b=>simp only[clo,dD]at c
   |ty b=>simp only[clo,dD]at c
theorem a7t{κ:Type}{H:Hp}{us:List (κ×V)}{ks:List κ}{ys:List D}(e:us.map (·.1)=ks)(r:Reps K U H (us.map (·.2)) ys):KRep K U H us (ks.zip ys):=by
 have l:ks.length=ys.length:=by rw[<-e,aJ,<-r.len,aJ]
 refine⟨?_,?_⟩
 .rw[List.map_fst_zip (by omega)];exact e
 .rw[List.map_snd_zip (by omega)];exact r
theorem ap6(hr:HRep K U' H' h1)(hL:∀(i:Nat) a,U'[i]? = some a->n<=i->a∈L)(f:FrzOf L H' H2)(ab:a99 H' L){k:Nat}(na:a∉L)(r:ORep K U' H' a o)(e:au9 n h1 k o=some o'):ORep K (U'.take n) H2 a o':=by
 have same:H2 a=H' a:=(f a).1 na;unfold au9 at e
 split at e
 .rename_i c;cases e
  exact(r.cut c).monoW (acb f ab _) same
 .cases o with
  |lst xs =>
   simp only[aP]at e;obtain⟨ys,e1,rfl⟩:=e;obtain⟨vs,h3,h4⟩:=r;exact⟨vs,by rw[same];exact h3,kh (λr e=>a5v hr hL f ab k r e) h4 e1⟩
  |dK kvs =>
   simp only[aP]at e;obtain⟨ys,e1,rfl⟩:=e;obtain⟨us,h3,h4,h5⟩:=r;exact⟨us,by rw[same];exact h3,a7t h4 (kh (λr e=>a5v hr hL f ab k r e) h5 e1)⟩
  |dT kvs =>
   simp only[aP]at e;obtain⟨ys,e1,rfl⟩:=e;obtain⟨us,h3,h4,h5⟩:=r;exact⟨us,by rw[same];exact h3,a7t h4 (kh (λr e=>a5v hr hL f ab k r e) h5 e1)⟩
  |ins c kvs =>
   simp only[aP]at e;obtain⟨ys,e1,rfl⟩:=e;obtain⟨C,dx,us,h3,hn,h4,h5⟩:=r;exact⟨C,dx,us,by rw[same];exact h3,hn,a7t h4 (kh (λr e=>a5v hr hL f ab k r e) h5 e1)⟩
  |dN _=>cases e
theorem a2c{α β:Type}{f:α->Option β}:∀{xs:List α} {ys:List β},a1a f xs=some ys->xs.length=ys.length/\∀(i:Nat) y,ys[i]? = some y->∃x,xs[i]? = some x/\f x=some y
 |[],_,e=>by cases e;exact⟨rfl,λi y e=>by simp at e⟩
 |x::xs,ys,e=>by
  unfold a1a at e
  split at e
  .rename_i y ys h1 h2;cases e
   obtain⟨l,g⟩:=a2c h2;refine⟨by simp[l],λi z e=>?_⟩
   cases i with
   |zero=>simp at e;subst e;exact⟨x,rfl,h1⟩
   |succ i=>simpa using g i z (by simpa using e)
  .cases e
theorem ag3(hr:HRep K U' H' h1)(M:List Addr)(hM:∀a∈M,a∈U'):a99 H' M:=λa ha=>by
 obtain⟨i,hi⟩:=c9 (hM a ha);obtain⟨o,_,q⟩:=hr.at hi
 cases o with
 |lst xs=>obtain⟨vs,h,_⟩:=q;exact .inl ⟨_,h⟩
 |dK xs=>obtain⟨vs,h,_⟩:=q;exact .inr (.inl ⟨_,h⟩)
 |dT xs=>obtain⟨vs,h,_⟩:=q;exact .inr (.inr (.inl ⟨_,h⟩))
 |ins _ _=>obtain⟨C,dx,vs,h,_⟩:=q;exact .inr (.inr (.inr (.inl ⟨_,_,_,h⟩)))
 |dN _ =>
  obtain⟨ent,⟨h,_⟩|⟨h,_⟩,_⟩:=q
  .exact .inr (.inr (.inr (.inr ⟨_,h.has⟩)))
  .exact .inr (.inl ⟨_,h⟩)
theorem a5w{α:Type}{l:List α}(nd:l.Nodup){i j:Nat}{a:α}(h1:l[i]? = some a)(h2:l[j]? = some a):i=j:=by
 obtain⟨l1,e1⟩:=ag.mp h1;obtain⟨l2,e2⟩:=ag.mp h2
 rcases Nat.lt_trichotomy i j with l|l|l
 .exact absurd (e1.trans e2.symm) (cD.mp nd i j l1 l2 l)
 .exact l
 .exact absurd (e2.trans e1.symm) (cD.mp nd j i l2 l1 l)
theorem aua(g:Gr U H U' H')(f:FrzOf L H' H2)(ab:a99 H' L)(hL:∀a∈L,H a=none)(hm:∀a∈m,H a=none):Gr U H (U++m) H2:=by
 refine⟨⟨m,rfl,hm⟩,λa vs e=>f.still ab (g.tup a vs e) True.intro,λa o u e=>f.still ab (g.frz a o u e) True.intro,λa u e hn=>?_,λa u e=>?_⟩
 .rw[(f a).1 λz=>by rw[hL a z]at e;cases e]
  exact g.oth a u e hn
 .obtain⟨u',e'⟩:=g.kp a u e;rw[(f a).1 λz=>by rw[hL a z]at e;cases e]
  exact⟨u',e'⟩
theorem ag4{d d':D}{v:V}{g':Hd}(g:Gr U H U' H')(rb:Rep K U' H' v d)(hr:HRep K U' H' h1)(e:a9a U.length (.ok d h1)=.ok d' g') :
  ∃L,a99 H' L/\∀H2,FrzOf L H' H2->Gr U H U H2/\Rep K U H2 v d'/\HRep K U H2 g':=by
 obtain⟨m,rfl,hm⟩:=g.pre;have tk:(U++m).take U.length=U:=by simp
 have ab:a99 H' m:=ag3 hr m λa ha=>br _ ha;have hL:∀(i:Nat) a,(U++m)[i]? = some a->U.length<=i->a∈m:=λi a e hi=>by
  rw[aN hi]at e;exact bB e
 refine⟨m,ab,λH2 f=>?_⟩;unfold a9a at e;simp only at e
 split at e
 .rename_i dd gg e1 e2;cases e
  refine⟨by simpa using aua g f ab hm (m:=[]) (by simp),by have:=a5v hr hL f ab FU rb e1;rwa[tk]at this,?_⟩
  obtain⟨l,gt⟩:=a2c e2;have hl:=hr.len;have ln:U.length<=h1.length:=by rw[<-hl];simp
  refine⟨(bA.mp hr.nd).1,by rw[<-l,aR];omega,λi a o q1 q2=>?_⟩
  obtain⟨x,hx,fx⟩:=gt i o q2;have hi:i<U.length:=(ag.mp q1).1;rw[eJ,av hi]at hx;have q3:(U++m)[i]? = some a:=by rw[aV hi];exact q1
  have na:a∉m:=λz=>(bA.mp hr.nd).2.2 a (bB q1) a z rfl;have:=ap6 hr hL f ab na (hr.obj i a x q3 hx) fx
  rwa[tk]at this
 .cases e
theorem ajr(g:Gr U H U' H')(rb:Rep K U' H' v d)(hr:HRep K U' H' h1)(e:aqy U.length (.ok d h1)=.ok d' g') :
  ∃b,H b=none/\Gr U H (U++[b]) H'/\Rep K (U++[b]) H' v d'/\HRep K (U++[b]) H' g':=by
 obtain⟨m,rfl,hm⟩:=g.pre;have tk:(U++m).take U.length=U:=by simp
 have up:∀b,Gw U H' (U++[b]) H':=λb=>⟨⟨[b],rfl⟩,λ_ _ h=>h,λ_ _ _ h=>h⟩
 cases rb with
 |@ref b i hb =>
  unfold aqy at e;simp only at e
  split at e
  .rename_i ob ho
   split at e
   .rename_i hc;obtain⟨hi,c1,c2⟩:=hc;cases e
    have hb':=hb;rw[aN hi]at hb';have bm:b∈m:=bB hb';obtain⟨nd1,nd2,nd3⟩:=bA.mp hr.nd;have hl:=hr.len;have ln:U.length<=h1.length:=by rw[<-hl];simp
    have lt:(h1.take U.length).length=U.length:=by rw[aR];omega
    refine⟨b,hm b bm,⟨⟨[b],rfl,by simpa using hm b bm⟩,g.tup,g.frz,g.oth,g.kp⟩,.ref (by simp),?_⟩
    refine⟨bA.mpr ⟨nd1,by simp,λa ha c hc z=>nd3 a ha c (by rw[aK.mp hc];exact bm) z⟩,by simp[lt],λj a o q1 q2=>?_⟩
    by_cases hj:j<U.length
    .rw[aV hj]at q1;rw[aV (by omega)]at q2
     have q2':=q2;rw[eJ,av hj]at q2';have:=(hr.obj j a o (by rw[aV hj];exact q1) q2').cut (c2 o (bB q2))
     rw[tk]at this;exact this.monoW (up b) rfl
    .have hj2:j<(U++[b]).length:=(ag.mp q1).1;have:j=U.length:=by simp at hj2;omega
     subst this;rw[aN (a9 _)]at q1;rw[aN (by omega),lt]at q2
     simp at q1 q2
     subst q1 q2;have:=(hr.obj i b ob hb ho).cut c1;rw[tk]at this;exact this.monoW (up b) rfl
   .cases e
  .cases e
 |_=>cases e
end
def sZ(f:SE):SE:=λτ h=>a9a h.length (f τ h)
abbrev b0p(Q:VK):VK:=λv H1=>∃L,a99 H1 L/\∀H2,FrzOf L H1 H2->Q v H2
theorem aya(q:lift K E (ur K) (sZ fa) σ H Q):lift K E (ur K) fa σ H (b0p Q):=by
 obtain⟨U,τ,h,S,Rh,o⟩:=q;refine⟨U,τ,h,S,Rh,?_⟩;unfold sZ at o;rw[<-Rh.len]at o
 cases hf:fa τ h with
 |ok d h1 =>
  rw[hf]at o
  intro U' H' v g r hr
  cases hz:a9a U.length (.ok d h1) with
  |ok d' g' =>
   rw[hz]at o;obtain⟨L,ab,k⟩:=ag4 g r hr hz;refine⟨L,ab,λH2 f=>?_⟩;obtain⟨k1,k2,k3⟩:=k H2 f;exact o U H2 v k1 k2 k3
  |ex c hx=>unfold a9a at hz;simp only at hz;split at hz<;>cases hz
  |no=>rw[hz]at o;exact o.elim
 |ex c h1=>rw[hf]at o;exact o.elim
 |no=>rw[hf]at o;exact o.elim
theorem b0q(ha:ME X E e fa):ME X E e (sZ fa):=PE.weak (aca ha) λσ H Q q=>aya q
noncomputable def refOf:D->Option Nat
 |.ref i=>some i
 |_=>none
noncomputable def a0s(ds:List D):List Nat:=ds.filterMap refOf
noncomputable def a0c:Nat->List D->List D
 |_,[]=>[]
 |k,d::ds=>match d with
  |.ref _=>.ref k::a0c (k+1) ds
  |d=>d::a0c k ds
noncomputable def ug:Hd->List Nat->List O->Hd
 |h,i::is,o::os=>ug (h.set i o) is os
 |h,_,_=>h
def isRef(d:D):Prop:=∃i,d=.ref i
open Classical in
def amq(m:Bool)(F:SF)(ds:List D)(h:Hd):R D:=match a1a (λi=>h[i]?) (a0s ds) with
 |none=>.no
 | some os=>if (a0s ds).Nodup/\(∀d∈ds,clo 0 d\/isRef d)/\(∀o∈os,yc 0 o) then
   (match (if m then aqy os.length (F (a0c 0 ds) os) else a9a os.length (F (a0c 0 ds) os)) with
   | .ok d h1=>if ∀o∈h1,yc 0 o then
     (if m then .ok (.ref h.length) (ug h (a0s ds) h1++h1.drop os.length)
      else if clo 0 d then .ok d (ug h (a0s ds) h1) else .no) else .no
   |_=>.no)
  else .no
def gm(m:Bool)(n:Nat)(F:SF):SF:=λds h=>if ds.length=n then amq m F ds h else .no
section
variable{K:Fg}{U U':List Addr}{H H' H2:Hp}{h h1:Hd}{n:Nat}
theorem amr(κ:List Addr):Gw [] H κ H:=⟨⟨κ,rfl⟩,λ_ _ h=>h,λ_ _ _ h=>h⟩
theorem Rep.any(r:Rep K U H v d)(c:MI.clo 0 d)(κ:List Addr):Rep K κ H v d:=by
 have:=r.cut c
 rw[fH]at this;exact this.monoW (amr κ)
theorem ORep.any(r:ORep K U H a o)(c:yc 0 o)(κ:List Addr):ORep K κ H a o:=by
 have:=r.cut c
 rw[fH]at this;exact this.monoW (amr κ) rfl
theorem a9b{α:Type}(l:List α):∀{is:List Nat},(∀i∈is,i<l.length)->∃ys,a1a (λi=>l[i]?) is=some ys
 |[],_=>⟨[],rfl⟩
 |i::is,hi=>by
  obtain⟨ys,e⟩:=a9b l (is:=is) λj hj=>hi j (aQ _ hj);have:=hi i aY;exact⟨l[i]::ys,by unfold a1a;rw[e,a8 this]⟩
theorem a4i:∀{ds:List D} {vs:List V} {pre κ:List Addr},Reps K U H vs ds->(∀d∈ds,clo 0 d\/isRef d)->a1a (λi=>U[i]?) (a0s ds)=some κ->Reps K (pre++κ) H vs (a0c pre.length ds)
 |[],_,_,_,.nil,_,_=>.nil
 |d::ds,_,pre,κ,.cons r rs,hc,e=>by
  have hc':∀d∈ds,clo 0 d\/isRef d:=λx hx=>hc x (aQ _ hx)
  by_cases hd:isRef d
  .obtain⟨i,rfl⟩:=hd;have e':a1a (λi=>U[i]?) (i::a0s ds)=some κ:=e;unfold a1a at e'
   split at e'
   .rename_i a κ' h1 h2
    cases e'
    cases r with
    |ref ha =>
     rw[ha]at h1;cases h1
     have:=a4i (pre:=pre++[a]) rs hc' h2
     simp only[dZ,eU,ae,aE]at this;refine .cons (.ref ?_) this;rw[aN (a9 _)];simp
   .cases e'
  .have c:=(hc d aY).resolve_right hd;have e1:a0s (d::ds)=a0s ds:=by
    unfold a0s
    cases d<;>first|rfl|exact absurd ⟨_,rfl⟩ hd
   have e2:a0c pre.length (d::ds)=d::a0c pre.length ds:=by
    cases d<;>first|rfl|exact absurd ⟨_,rfl⟩ hd
   rw[e1]at e;rw[e2];exact .cons (r.any c _) (a4i rs hc' e)
theorem a0j:∀{is:List Nat} {os:List O} {h:Hd},(ug h is os).length=h.length
 |[],_,_=>by simp[ug]
 |_::_,[],_=>by simp[ug]
 |i::is,o::os,h=>by rw[ug,a0j,dR]
theorem a4j:∀{is:List Nat} {os:List O} {h:Hd},i∉is->(ug h is os)[i]? = h[i]?
 |[],_,_,_=>by simp[ug]
 |_::_,[],_,_=>by simp[ug]
 |j::is,o::os,h,n=>by
  rw[ug,a4j λz=>n (aQ _ z),cL λz=>n (by rw[z];exact aY)]
theorem a9c:∀{is:List Nat} {os:List O} {h:Hd} {j:Nat},is.Nodup->is[j]? = some i->os[j]? = some o->i<h.length->(ug h is os)[i]? = some o
 |[],_,_,_,_,e,_,_=>by simp at e
 |_::_,[],_,_,_,_,e,_=>by simp at e
 |k::is,o'::os,h,j,nd,e1,e2,hl=>by
  cases j with
  |zero =>
   simp at e1 e2
   subst e1 e2;rw[ug,a4j (cT.mp nd).1,cb hl]
  |succ j =>
   rw[ug];exact a9c (j:=j) (cT.mp nd).2 (by simpa using e1) (by simpa using e2) (by simpa using hl)
theorem a9d{α:Type}{l:List α}(nl:l.Nodup){is:List Nat}{ys:List α}(e:a1a (λi=>l[i]?) is=some ys)(ni:is.Nodup):ys.Nodup:=by
 obtain⟨le,g⟩:=a2c e;refine cD.mpr λi j hi hj lt z=>?_;obtain⟨x,h1,h2⟩:=g i _ (a8 hi);obtain⟨y,h3,h4⟩:=g j _ (a8 hj);rw[<-z]at h4;have:=a5w nl h2 h4;subst this;have:=a5w ni h1 h3;omega
theorem acd{is:List Nat}{κ m:List Addr}{g:Hd}(hr:HRep K U H h)(e1:a1a (λi=>U[i]?) is=some κ)(nd:is.Nodup)(gr:Gr κ H (κ++m) H2)(hg:HRep K (κ++m) H2 g)(cg:∀o∈g,yc 0 o)(hm:m.length<=1) :
  Gr U H (U++m) H2/\HRep K (U++m) H2 (ug h is g++g.drop κ.length):=by
 obtain⟨l1,g1⟩:=a2c e1;have mn:∀a∈m,H a=none:=by
  obtain⟨m',e,hm'⟩:=gr.pre;rw[List.append_cancel_left e];exact hm'
 have sub:∀a∈κ,a∈U:=λa ha=>by
  obtain⟨j,hj⟩:=c9 ha;obtain⟨i,_,q⟩:=g1 j a hj;exact bB q
 have some_of:∀a∈U,∃u,H a=some u:=λa ha=>by
  obtain⟨i,hi⟩:=c9 ha;obtain⟨o,_,q⟩:=hr.at hi;obtain⟨u,q,_⟩:=q.some;exact⟨u,q⟩
 have G:Gr U H (U++m) H2:=⟨⟨m,rfl,mn⟩,gr.tup,gr.frz,λa u e n=>gr.oth a u e λz=>n (sub a z),gr.kp⟩;have lg:=hg.len;rw[ae]at lg;refine⟨G,?_,?_,λj a o q1 q2=>?_⟩
 .refine bA.mpr ⟨hr.nd,(bA.mp hg.nd).2.1,λa ha b hb z=>?_⟩;obtain⟨u,q⟩:=some_of a ha;rw[z,mn b hb]at q;cases q
 .rw[ae,ae,a0j,b6,hr.len];omega
 .by_cases hj:j<U.length
  .rw[aV hj]at q1;rw[aV (by rw[a0j,<-hr.len];exact hj)]at q2
   by_cases hp:j∈is
   .obtain⟨k,hk⟩:=c9 hp;have hkl:k<κ.length:=by rw[<-l1];exact(ag.mp hk).1
    obtain⟨i,h3,h4⟩:=g1 k _ (a8 hkl);rw[hk]at h3;cases h3
    rw[q1]at h4;have hkg:k<g.length:=by omega
    have e5:=a9c (h:=h) nd hk (a8 hkg) (by rw[<-hr.len];exact hj)
    rw[e5]at q2;cases q2
    have ea:(κ++m)[k]? = some a:=by rw[aV hkl,a8 hkl];exact h4.symm
    exact(hg.obj k a _ ea (a8 hkg)).any (cg _ (b9 hkg)) _
   .rw[a4j hp]at q2;have r:=hr.obj j a o q1 q2;obtain⟨u,hu,_⟩:=r.some;have na:a∉κ:=λz=>by
     obtain⟨k,hk⟩:=c9 z;obtain⟨i,h3,h4⟩:=g1 k a hk;have:=a5w hr.nd q1 h4;subst this;exact hp (bB h3)
    exact r.mono G (by rw[hu];exact gr.oth a u hu na)
  .have q1':=q1;rw[aN (by omega)]at q1
   rw[aN (by rw[a0j,<-hr.len];omega),a0j,<-hr.len,List.getElem?_drop]at q2
   have ea:(κ++m)[κ.length+(j-U.length)]? = some a:=by rw[aN (by omega)];simpa using q1
   exact(hg.obj _ a o ea q2).any (cg o (bB q2)) _
theorem a7u{m:Bool}{F:SF}{vs:List V}{ds:List D}{Q:VK}(r:Reps K U H vs ds)(hr:HRep K U H h)(o:out K X0 (ur K) U H (gm m n F ds h) Q)(E:XK) :
  a0h K n F vs H (λv H1=>∃L,a99 H1 L/\∀H2,FrzOf L H1 H2->Q v H2) E:=by
 unfold gm at o
 split at o
 .rename_i hl;refine⟨by rw[r.len];exact hl,?_⟩
  unfold amq at o
  split at o
  .exact o.elim
  .rename_i os hos
   split at o
   .rename_i hc;obtain⟨nd,hd,hcl⟩:=hc;obtain⟨l0,g0⟩:=a2c hos;obtain⟨κ,e1⟩:=a9b U (is:=a0s ds) λi hi=>by
     obtain⟨j,hj⟩:=c9 hi;have hjl:j<os.length:=by rw[<-l0];exact(ag.mp hj).1
     obtain⟨x,h3,h4⟩:=g0 j _ (a8 hjl);rw[hj]at h3;cases h3
     rw[hr.len];exact(ag.mp h4).1
    obtain⟨l1,g1⟩:=a2c e1;have lk:κ.length=os.length:=by omega
    have R0:Reps K κ H vs (a0c 0 ds):=by simpa using a4i (pre:=[]) r hd e1
    have H0:HRep K κ H os:=by
     refine⟨a9d hr.nd e1 nd,lk,λj a ob q1 q2=>?_⟩;obtain⟨i,h3,h4⟩:=g1 j a q1;obtain⟨i',h5,h6⟩:=g0 j ob q2;rw[h3]at h5;cases h5
     exact(hr.obj i a ob h4 h6).any (hcl ob (bB q2)) _
    refine⟨κ,a0c 0 ds,os,R0,H0,?_⟩
    cases hF:F (a0c 0 ds) os with
    |no=>rw[hF]at o;cases m<;>exact o.elim
    |ex c hx=>rw[hF]at o;cases m<;>exact o.elim
    |ok d h1 =>
     rw[hF]at o
     intro U' H' v g rb hr1
     rw[<-lk]at o
     cases m with
     |false =>
      simp only[cK,eP]at o
      cases hz:a9a κ.length (.ok d h1) with
      |ok d' g' =>
       rw[hz]at o;simp only at o;obtain⟨L,ab,k⟩:=ag4 g rb hr1 hz;refine⟨L,ab,λH2 f=>?_⟩;obtain⟨k1,k2,k3⟩:=k H2 f
       split at o
       .rename_i cg
        split at o
        .rename_i cd;have q:=acd (m:=[]) hr e1 nd (by simpa using k1) (by simpa using k3) cg (by simp)
         have lg:=k3.len;have dr:g'.drop κ.length=[]:=cA (by omega)
         rw[dr,bX,bX]at q;exact o U H2 v q.1 (k2.any cd _) q.2
        .exact o.elim
       .exact o.elim
      |ex c hx=>rw[hz]at o;exact o.elim
      |no=>rw[hz]at o;exact o.elim
     |true =>
      simp only[ef]at o
      cases hz:aqy κ.length (.ok d h1) with
      |ok d' g' =>
       rw[hz]at o;simp only at o;obtain⟨b,hb,k1,k2,k3⟩:=ajr g rb hr1 hz;refine⟨[],λa ha=>(by simp at ha),λH2 f=>?_⟩
       have e2:H2=H':=by funext a;exact(f a).1 (by simp)
       subst e2
       split at o
       .rename_i cg;have q:=acd (m:=[b]) hr e1 nd k1 k3 cg (by simp)
        refine o (U++[b]) H2 v q.1 ?_ q.2;have hd':d'=.ref κ.length:=by
         unfold aqy at hz
         split at hz
         .rename_i i h2 hh
          injection hh with z1 z2
          split at hz
          .split at hz
           .injection hz with z3 z4;exact z3.symm
           .cases hz
          .cases hz
         .cases hz
        subst hd'
        cases k2 with
        |ref hk =>
         rw[aN (a9 _)]at hk;simp at hk;subst hk;exact .ref (by rw[<-hr.len];simp)
       .exact o.elim
      |ex c hx=>rw[hz]at o;exact o.elim
      |no=>rw[hz]at o;exact o.elim
   .exact o.elim
 .exact o.elim
end
theorem ace(m:Bool){X:Cx}(G:Dn X.prog X.w X.K X.mg X.base k x ps (a0h X.K n F) f fd)(hr:Room k X.A)(hg:Gl X x)(ha:MA X X0 (e::es) ka)
  (hdb:(x == ("__debug__" : Str))=false:=by decide) (he:starEach (e::es) X.env=(false,eval e X.env)::starEach es X.env:=by rfl) (hpl:(backTo pos (starEach es X.env)).any (·.1)=false:=by rfl):ME X X0 (.Call (.Name x p) (e::es) [] pos) (sA (gm m n F) ka):=by
 refine PE.weak (aca (aew G.ok hr hg G.m G.kp G.b .nil ao8 ha hdb he hpl)) ?_
 rintro σ H Q ⟨U,τ,h,S,Rh,o⟩
 refine⟨U,τ,h,S,Rh,dg o λds h1 U1 H1 vs g1 r1 hr1 o1=>?_⟩;rw[bX];exact a7u r1 hr1 o1 _
theorem ag5(m:Bool){X:Cx}(G:Dn X.prog X.w X.K X.mg X.base k x ps (a0h X.K n F) f fd)(hr:Room k X.A)(hg:Gl X x)(hdb:(x == ("__debug__" : Str))=false:=by decide) :
  ME X X0 (.Call (.Name x p) [] [] pos) (sA (gm m n F) aq):=by
 refine PE.weak (aca (aiv G.ok hr hg G.m G.kp G.b .nil ao8 hdb)) ?_
 rintro σ H Q ⟨U,τ,h,S,Rh,o⟩
 exact a7u (vs:=[]) .nil Rh o E0
def aww:SS:=λ_ _=>.no
section
variable{X:Cx}{E:XD}
theorem aub:MSs X E st aww:=λ_ _ _ _ _ _ ⟨_,_,_,_,_,o⟩=>o.elim
end
theorem ams(h:PS X st t):PS X st (λD σ H=>t {D with nx:=λσ' H1=>∃L,a99 H1 L/\∀H2,FrzOf L H1 H2->D.nx σ' H2} σ H):=λaA s σ H D I q =>
 thn (h aA s σ H _ I q) λf s' k=>by
  cases f with
  |next =>
   obtain⟨σ',H1,I1,L,ab,k⟩:=k;obtain⟨H2,f,I2⟩:=Inv.frz I1 ab;exact⟨σ',H2,I2,k H2 f⟩
  |brk=>exact k
  |cont=>exact k
  |ret u=>exact k
theorem ag6(q:a5t K E (j5 i f) N σ H):lift K E (ur K) f σ H (λv H1=>N.nx (σ.set i (some v)) H1):=by
 obtain⟨U,τ,h,S,Rh,o⟩:=q;exact⟨U,τ,h,S,Rh,ut o λd h1 U1 H1 v g1 r1 hr1 o1=>o1 U1 H1 _ (.refl _ _) ((S.mono g1).set r1 i) hr1⟩
theorem ap7(ht:aef K n g t)(q:lift K E (ur K) (mj fi t fe ix) σ H Q):afa (lift K E (ay7 K) fi) (xj n ix) g (lift K E (ur K) fe) σ H Q:=by
 obtain⟨U,τ,h,Sr,Rh,o⟩:=q;refine⟨U,τ,h,Sr,Rh,dg o λit h1 U1 H1 J g1 r1 hr1 o1=>?_⟩
 by_cases hl:it.xs.length<=LINE
 .rw[av hl]at o1;exact ac1 r1 ht (a3m (Sr.mono g1) ix) hr1 hl o1
 .rw[aO hl]at o1;exact o1.elim
theorem ajs(ht:aef K n g t)(q:lift K E (ur K) (a1g fi t fc fe ix) σ H Q):a4e (lift K E (ay7 K) fi) (xj n ix) g (lift K E am7 fc) (lift K E (ur K) fe) σ H Q:=by
 obtain⟨U,τ,h,Sr,Rh,o⟩:=q;refine⟨U,τ,h,Sr,Rh,dg o λit h1 U1 H1 J g1 r1 hr1 o1=>?_⟩
 by_cases hl:it.xs.length<=LINE
 .rw[av hl]at o1;exact a94 r1 ht (a3m (Sr.mono g1) ix) hr1 hl o1
 .rw[aO hl]at o1;exact o1.elim
section
variable{X:Cx}{E:XD}{aD tg aF cnd:Expr}{aB:Scope}{pos spos pos':Pos}{cl:List (Str×Addr)}{ts fr:List Str}{ix:List Nat}{fi:SI}{g:TG}{t:D->Option Sd}{fe:SE}{fc:ST}{i:Nat}{x:Str}
theorem acf(hN:X.N.Nodup)(hi':X.N[i]? = some x)(hx:Loc X.env.scope x)(hc:X.calm=true)(S:CSc X aB cl ts fr ix)(hi:MI X E tg aF fi)(hg:∀C fp s H,PG (cxC X (ts++fr) aB cl C fp s H) tg g)(ht:aef X.K ts.length g t)(he:∀C fp s H,ME (cxC X (ts++fr) aB cl C fp s H) E aD fe)
  (hs:∀x,foldedSetIterable aF X.env x=pure x:=by intro _;rfl) (hsw:swapsWith (.ListComp aD [⟨tg,aF,[],0⟩] aB pos) (some (.Name x pos')) spos.line X.env=pure true:=by rfl) (hf:Hf X x:=by with_unfolding_all first|exact .inl rfl|exact .inr rfl|assumption) :
  MS X E (.Assign [.Name x pos'] (.ListComp aD [⟨tg,aF,[],0⟩] aB pos) spos) (j5 i (sZ (mj fi t fe ix))) :=
 PS.weak (ams (aj3 (te:=lift X.K E (ur X.K) fe) hN hi' hx hc S hi hg he hs hsw hf)) λN σ H q=>ap7 ht (aya (ag6 q))
theorem ajt(hN:X.N.Nodup)(hi':X.N[i]? = some x)(hx:Loc X.env.scope x)(hc:X.calm=true)(S:CSc X aB cl ts fr ix)(hi:MI X E tg aF fi)(hg:∀C fp s H,PG (cxC X (ts++fr) aB cl C fp s H) tg g)(ht:aef X.K ts.length g t)(he:∀C fp s H,ME (cxC X (ts++fr) aB cl C fp s H) E aD fe)
  (hq:∀C fp s H,MT (cxC X (ts++fr) aB cl C fp s H) E cnd fc)
  (hs:∀x,foldedSetIterable aF X.env x=pure x:=by intro _;rfl) (hsw:swapsWith (.ListComp aD [⟨tg,aF,[cnd],0⟩] aB pos) (some (.Name x pos')) spos.line X.env=pure true:=by rfl) (hf:Hf X x:=by with_unfolding_all first|exact .inl rfl|exact .inr rfl|assumption) :
  MS X E (.Assign [.Name x pos'] (.ListComp aD [⟨tg,aF,[cnd],0⟩] aB pos) spos) (j5 i (sZ (a1g fi t fc fe ix))) :=
 PS.weak (ams (adl (te:=lift X.K E (ur X.K) fe) (tc:=lift X.K E am7 fc) hN hi' hx hc S hi hg he hq hs hsw hf)) λN σ H q=>ajs ht (aya (ag6 q))
end
theorem auc(Fu:Fun K x qual st f fd)(S:FnScope N ps (ig st))
  (hb:∀(cdv:Value) (A:Around) (outer:List Env) (s:Shared) (H:Hp) (E:XK),Room k (A.deeper (PyProof.Rows.envOfC qual (ig st) s.heap.objs.size f cdv))->MSs (aex CX0 P w K mg base N qual (ig st) f cdv A outer s H E).nox X0 (uq st) b) :
  FnOk P w K mg base CX0 (k+1) f fd ps (a0h K ps.length (jt b N.length)):=atn Fu S hb λds h _ _ _=>Rf.same rfl
end MI
namespace MI
open L2 HT
theorem adv{s:Shared}(ht:PyProof.Rows.IsTup s.heap t aC)(hs:s.heap.IsSliceOf sl vl vu .none)(pl:IsPart vl lo)(pu:IsPart vu hi)
  (hw:HT.sIx aC.size 0 lo=0/\HT.sIx aC.size aC.size hi=aC.size) (h:Q (.ref t) s):wpAny (model prog w) A (getItem (.ref t) (.ref sl)) Q E s:=by
 obtain⟨os,f1,f2,f3⟩:=id hs;have ty:s.TypeIs (.ref sl) "slice":=⟨os,f1,f2⟩;have tt:s.TypeIs (.ref t) "tuple":=ht.typeIs;rw[getItem]
 try apply cW
 first|(apply ax;apply aS)|skip
 apply ax;apply wpAny_sequenceKey tt (by decide)
 apply ax
 apply wpAny_callSpecial?_slot (name:=Str.ofString "__getitem__") tt bO
 apply wpAny_call_entry bO tt PyProof.Rows.entry_tuple_getitem _ (PyProof.Rows.args_tuple_getitem _ _)
 change wpAny (model prog w) A.in1 (Builtin.Tuple.tupleItemsOf (.ref t)>>=_) _ _ s
 apply ax;apply PyProof.Rows.tupleItemsOf_ ht
 apply ax;apply wpAny_typeOf ty
 rw[av (by decide)]
 apply ax;apply HT.a0w hs pl pu
 rw[hw.1,hw.2];dsimp only;rw[av (by simp)]
 apply ax
 rw[Builtin.Tuple.tupleIsExact]
 apply ax;apply wpAny_typeOf tt
 apply aS
 rw[av (by decide)]
 apply ax;apply wpAny_rule
 apply aS
 exact⟨_,rfl,aS h⟩
def azo(K:Fg):V->Option Int->Option Int->Hp->VK->Prop:=λx lo hi H Q=>∃a xs,x=.ref a/\SqT K H a xs/\whole xs.length lo hi/\Q (.ref a) H
theorem aju:SlR X (azo X.K):=by
 intro aA s σ H x v vl vu lo hi sl Q I rx hs pl pu h
 obtain⟨a,xs,rfl,hx,hw,q⟩:=h;cases rx
 obtain⟨its,r,ht,hz⟩:=I.tuple hx;have aH:its.toArray.size=xs.length:=by rw[aw];exact r.length.symm
 exact⟨"tuple",_,bO.lookup,ht.typeIs,adv ht hs pl pu (by rw[aH];exact hw) ⟨.ref a,H,I,rfl,q⟩⟩
noncomputable def acg(d:D)(lo hi:Option Int)(h:Hd):R D:=match d with
 |.tup xs=>if whole xs.length lo hi then .ok (.tup xs) h else .ok (.tup (a6k xs lo hi)) h
 |d=>gSl d lo hi h
noncomputable def vm(f:SE)(l u:SO):SE:=λτ h=>(f τ h).bind λd h1=>(l τ h1).bind λlo h2=>(u τ h2).bind λhi h3=>acg d lo hi h3
theorem ap8(rx:Rep K U H x d)(hr:HRep K U H h)(o:out K E (ur K) U H (acg d lo hi h) Q):(axx x lo hi H Q\/axs K x lo hi H Q\/axu K x lo hi H Q)\/azo K x lo hi H Q:=by
 cases rx with
 |@tup p vs xs hp r =>
  by_cases hc:whole xs.length lo hi
  .simp only[acg,av hc]at o;exact .inr ⟨p,vs,rfl,SqT.of hp,by rw[r.len];exact hc,ans o (.tup hp r) hr⟩
  .simp only[acg,aO hc]at o;exact .inl (.inr (.inl ⟨p,vs,rfl,SqT.of hp,by rw[r.len];exact hc,a0r (a3o r lo hi) hr o⟩))
 |non=>exact o.elim
 |bl _=>exact o.elim
 |int _=>exact o.elim
 |ty _=>exact o.elim
 |str z=>exact .inl (ac4 (.str z) hr o)
 |rol a b=>exact .inl (ac4 (.rol a b) hr o)
 |scr a b=>exact .inl (ac4 (.scr a b) hr o)
 |rod a b c=>exact o.elim
 |rdT a b c=>exact o.elim
 |exc a b c=>exact o.elim
 |ins _ _ _ _=>exact o.elim
 |ref a=>exact .inl (ac4 (.ref a) hr o)
theorem ag7(he:ME X E e fa)(hl:MO X E lo l)(hu:MO X E hi u):ME X E (.Subscript e (.Slice lo hi none p2) pos) (vm fa l u):=by
 refine PE.weak (aix ((asn.or (asb.or ao6)).or aju) he hl hu) ?_
 rintro σ H Q ⟨U,τ,h,S,Rh,o⟩
 refine⟨U,τ,h,S,Rh,dg o λd h1 U1 H1 v g1 r1 hr1 o1=>?_⟩;refine⟨U1,τ,h1,S.mono g1,hr1,dg o1 λlo h2 U2 H2 lv g2 r2 hr2 o2=>?_⟩;refine⟨U2,τ,h2,(S.mono g1).mono g2,hr2,dg o2 λhi h3 U3 H3 hv g3 r3 hr3 o3=>?_⟩
 cases r2;cases r3
 exact ap8 ((r1.mono g2).mono g3) hr3 o3
end MI
namespace TPM
open PySem.W L2 HT MI
theorem yf:fillsNumberSlot (.type "tuple") "mul" = pure false :=
 fillsNumberSlot_seq (id := "tuple.__mul__") (r:=some (.builtin "tuple.__rmul__")) eA.lookup (by decide +kernel) F.slot_tuple_rmul.lookup (by decide +kernel)
theorem ag8(t:Addr)(aC:Array Value)(n:Nat)(dd:Option Addr)(sl:Array (Option Value))(x:Int)(u:Tok)(h0:aC.isEmpty=false)(h2:2<=x)(h3:x<2^63)(hz:aC.size*x.toNat<=sizeLine) :
  Meets (Builtin.«tuple.__mul__» ⟨[.ref t,.int x u],[]⟩) (λ_ R s=>s.heap.get? t=some {cls:=.type "tuple",dict:=dd,data:=.seq aC n,slots:=sl}/\R (.ok (.ret (.ref s.heap.objs.size))) {s with heap:=s.heap.push {cls:=.type "tuple",data:=.seq (List.foldl (λx1 x2=>x1++x2) #[] (List.replicate x.toNat aC))} }) :=
 .of_wp λprog w A R s h=>by
  obtain⟨hp,g,d,tk,os⟩:=s;obtain⟨hl,h⟩:=h;have c1:¬ (decide (x < -2^63) || decide (x≥2^63))=true:=by
   rw[cC,aW,aW];omega
  have c2:¬ (aC.isEmpty || x == 1)=true:=by
   rw[h0,fg];simp;omega
  have c3:¬ (decide (x<=0) || aC.isEmpty)=true:=by
   rw[h0,eE,aW];omega
  have ex:((aC.size:Nat):Int)*x=((aC.size*x.toNat:Nat):Int):=by
   rw[fZ,Int.toNat_of_nonneg (by omega)]
  have sl':(sizeLine:Nat)<=(2^63-1) / 8:=by decide
  have c4:¬ (aC.size:Int)*x > (2^63-1) / 8:=by rw[ex];omega
  have c5:¬ Builtin.Tuple.tupleTooMany ((aC.size:Int)*x)=true:=by
   rw[ex];simp only[Builtin.Tuple.tupleTooMany,aW];omega
  wp_walk
  rw[aO c1]
  wp_walk
  rw[aO c2]
  wp_walk
  rw[aO c3]
  wp_walk
  rw[aO c4]
  wp_walk
  rw[aO c5]
  wp_walk
  have fs:¬ (List.foldl (λx1 x2=>x1++x2) #[] (List.replicate x.toNat aC)).size > sizeLine:=by
   have:=foldl_rep aC.toList x.toNat []
   rw[bG,Array.toArray_toList]at this;rw[show(#[]:Array Value)=([]:List Value).toArray from rfl,this,aw,len_rep,cR,eC]
   omega
  rw[aO fs]
  wp_walk
  exact⟨_,rfl,h⟩
theorem a1i(a:Int)(t:Tok)(l:Addr)(aC:Array Value)(n:Nat)(dd:Option Addr)(sl:Array (Option Value)) :
  Meets (Builtin.«int.__rmul__» ⟨[.int a t,.ref l],[]⟩) (λ_ R s=>s.heap.get? l=some {cls:=.type "tuple",dict:=dd,data:=.seq aC n,slots:=sl}/\R (.ok (.ret Value.notImplemented)) s):=by
 refine .of_wp λprog w A R s h=>?_;obtain⟨hp,g,d,tk,os⟩:=s;obtain⟨hl,h⟩:=h
 wp_walk
 exact⟨_,rfl,h⟩
theorem a5x:seqRepeat? (.type "tuple")=pure (some (.builtin "tuple.__mul__")):=by
 unfold seqRepeat?;rw[seqSlot_of (T := "tuple") (name := "__mul__") (id := "tuple.__mul__") eA.lookup (by decide +kernel),seqSlot_of (T := "tuple") (name := "__rmul__") (id := "tuple.__rmul__") F.slot_tuple_rmul.lookup (by decide +kernel)]
 rfl
noncomputable def ag9(K:Fg):R2:=λx y H Q=>∃a k xs,x=.ref a/\y=.int k/\SqT K H a xs/\xs≠[]/\2<=k/\k<2^63/\xs.length*k.toNat<=sizeLine/\∀p,H p=none->Q (.ref p) (upd H p (.tup (List.replicate k.toNat xs).flatten))
theorem aga:OpR X (binaryOp .Mult) (ag9 X.K):=by
 intro aA s σ H x y v u Q I rx ry h
 obtain⟨a,k,xs,rfl,rfl,ha,hx,h1,h2,hz,q⟩:=h;cases rx
 obtain⟨t,rfl⟩:=ry;obtain⟨its,r1,p1,_⟩:=I.tuple ha;obtain⟨⟨cls,dd,data,sl⟩,ho,hc,n,hd⟩:=id p1;simp only at hc hd;subst hc hd;have he:its.toArray.isEmpty=false:=by
  cases its with
  |nil=>exact(hx (r1.nil_iff.mp rfl)).elim
  |cons _ _=>rfl
 have hz2:its.toArray.size*k.toNat<=sizeLine:=by rw[aw,<-r1.length];exact hz
 have hnew:List.foldl (λx1 x2=>x1++x2) #[] (List.replicate k.toNat its.toArray)=(List.replicate k.toNat its).flatten.toArray:=by
  have:=foldl_rep its k.toNat []
  rw[bG]at this;exact this
 refine cM (T := "tuple") (U := "int") (by decide) ⟨_,ho,rfl⟩ (λs'=>dJ s' k t) yf eF cI a5x eh.lookup
  (cN cI (dJ s k t) ei (e7 _ _) (a1i k t a its.toArray n dd sl)
   ⟨ho,rfl,⟨_,ho,rfl⟩,cN eA ⟨_,ho,rfl⟩ fN (fE _ _) (ag8 a its.toArray n dd sl k t he h1 h2 hz2) ⟨ho,?_⟩⟩)
 rw[hnew];refine⟨.ref s.heap.objs.size,_,I.laid (t':=s.toks) (o:=.tup (List.replicate k.toNat xs).flatten) (λb ob q=>aI _ q) (a9 _) ?_,rfl,q _ (I.hok.fresh (a9 _))⟩;exact⟨by rw[len_rep,eC];exact hz,_,r1.rep k.toNat,L2.TupD.new _ _⟩
end TPM
namespace MI
open L2 TPM
open Classical in
def ajv(x y:D)(h:Hd):R D:=match x,y with
 |.tup xs,.int k=>if (xs≠[]/\2<=k/\k<2^63)/\xs.length*k.toNat<=LINE then .ok (.tup (List.replicate k.toNat xs).flatten) h else .no
 |x,y=>ato x y h
theorem a7v:a01 K ajv (λx y H Q=>(rI CMul (λi j=>.int (i*j)) x y H Q\/aqv x y H Q)\/ag9 K x y H Q):=by
 intro E U H h x y dx dy Q rx ry hr o
 cases rx with
 |@tup a vs xs ha rs =>
  cases ry with
  |int k =>
   simp only[ajv]at o
   split at o
   .rename_i hc;refine .inr ⟨a,k,vs,rfl,rfl,SqT.of ha,λz=>?_,hc.1.2.1,hc.1.2.2,ll (by rw[rs.len];exact hc.2),a0r (rs.flat _) hr o⟩
    subst z;cases rs
    exact hc.1.1 rfl
   .exact o.elim
  |_=>exact o.elim
 |int i=>exact .inl (aft _ _ _ _ _ _ _ _ _ (.int i) ry hr o)
 |ref e=>exact .inl (aft _ _ _ _ _ _ _ _ _ (.ref e) ry hr o)
 |_=>exact o.elim
end MI
namespace L2
open PyProof.Rows
theorem ajw:azf X (aws X.K):=by
 intro aA s σ H o i ov iv Q I ro ri h
 obtain⟨p,xs,k,z,rfl,rfl,hq,he,q⟩:=h;cases ro
 obtain⟨t,rfl⟩:=ri;obtain⟨its,r,pl,hz⟩:=I.list hq;obtain⟨j,h1,h2,h3,h4,h5⟩:=a7f he;obtain⟨w,ew,rw'⟩:=r.get h2;have len:=r.length;have l63:=a4r;have done:EP X aA σ Q w s:=⟨z,H,I,rw',q⟩
 by_cases neg:k<0
 .have ej:(k+(its.toArray.size:Int)).toNat=j:=by
   rw[fX neg h4]at h1;rw[aw,<-len];exact bJ h1
  exact wpAny_getItem_list_neg pl.isList neg (by rw[aw];omega) (by omega) (by rw[ej];simpa using ew) done
 .have ej:k.toNat=j:=by
   rw[gu (by omega) h5]at h1
   exact bJ h1
  exact wpAny_getItem_list pl.isList (by omega) (by omega) (by rw[ej];simpa using ew) done
end L2
namespace MI
open L2
noncomputable def aib(x y:D)(h:Hd):R D:=match x,y with
 |.ref p,.int i=>(match h[p]? with|some (.lst xs)=>(match atI xs i with|some d=>.ok d h|none=>.no)|_=>.no)
 |_,_=>.no
theorem ap9:a01 K aib (aws K):=by
 intro E U H h x y dx dy Q rx ry hr o
 cases rx with
 |@ref p i hp =>
  cases ry with
  |int k =>
   simp only[aib]at o
   split at o
   .rename_i xs hx;obtain⟨vs,h3,h4⟩:=hr.lst hp hx
    split at o
    .rename_i d he;obtain⟨v,h1,h2⟩:=ac3 h4 he;exact⟨p,vs,k,v,rfl,rfl,SqL.of h3,h1,ans o h2 hr⟩
    .exact o.elim
   .exact o.elim
  |_=>exact o.elim
 |_=>exact o.elim
noncomputable def a1j(g:D->D->Hd->R D)(fo fi fe:SE):SS:=λτ h=>(fo τ h).fl λo h1=>(fi τ h1).fl λi h2=>(aib o i h2).fl λx h3=>(fe τ h3).fl λy h4=>(g x y h4).fl λz h5=>match put o i z h5 with|some h6=>.nx τ h6|none=>.no
section
variable{X:Cx}{E:XD}{e o i:Expr}{fa fb fc:SE}{pos:Pos}
theorem aau(ho:ME X E o fa)(hi:ME X E i fb)(he:ME X E e fc)(hp:OpR X (inplaceOp op) r)(hs:a01 X.K gg r)
  (ha:∀ov iv new,augStore i ov iv new=(do holding [new,ov,iv] (setItem ov iv new);release [new,ov,iv] [];pure .next):=by intros;rfl):MS X E (.AugAssign (.Subscript o i tpos) op e pos) (a1j gg fa fb fc):=by
 refine PS.weak (anu ho hi ajw he hp set_list ha) ?_
 rintro N σ H ⟨U,τ,h,S,Rh,oo⟩
 refine⟨U,τ,h,S,Rh,ut oo λd h1 U1 H1 v g1 r1 hr1 o1=>?_⟩;refine⟨U1,τ,h1,S.mono g1,hr1,ut o1 λd2 h2 U2 H2 u g2 r2 hr2 o2=>?_⟩;refine ap9 E U2 H2 h2 v u d d2 _ (r1.mono g2) r2 hr2 (ut o2 λd3 h3 U3 H3 w g3 r3 hr3 o3=>?_);have S3:=((S.mono g1).mono g2).mono g3;refine⟨U3,τ,h3,S3,hr3,ut o3 λd4 h4 U4 H4 y g4 r4 hr4 o4=>?_⟩;refine hs E U4 H4 h4 w y d3 d4 _ (r3.mono g4) r4 hr4 (ut o4 λd5 h5 U5 H5 z g5 r5 hr5 o5=>?_)
 cases hq:put d d2 d5 h5 with
 |none=>rw[hq]at o5;exact o5.elim
 |some h6 =>
  rw[hq]at o5;exact afo ((((r1.mono g2).mono g3).mono g4).mono g5) (((r2.mono g3).mono g4).mono g5) r5 hr5 hq λH' g6 hr6=>o5 U5 H' σ g6 (((S3.mono g4).mono g5).mono g6) hr6
end
end MI
namespace TPM
open PySem.W L2 HT MI
theorem adw(t b:Addr)(items2:Array Value)(n n2:Nat)(dd dd2:Option Addr)(sl sl2:Array (Option Value)) :
  Meets (Builtin.«tuple.__add__» ⟨[.ref t,.ref b],[]⟩) (λ_ R s=>s.heap.get? t=some {cls:=.type "tuple",dict:=dd,data:=.seq #[] n,slots:=sl}/\s.heap.get? b=some {cls:=.type "tuple",dict:=dd2,data:=.seq items2 n2,slots:=sl2}/\R (.ok (.ret (.ref b))) s):=by
 refine .of_wp λprog w A R s h=>?_;obtain⟨hp,g,d,tk,os⟩:=s;obtain⟨hl,hb,h⟩:=h
 wp_walk
 refine wpAny_of_eq sub_tuple_self ?_
 wp_walk
 exact⟨_,rfl,h⟩
noncomputable def aud(K:Fg):R2:=λx y H Q=>∃a b ys,x=.ref a/\y=.ref b/\SqT K H a []/\SqT K H b ys/\Q (.ref b) H
theorem apa:OpR X (binaryOp .Add) (aud X.K):=by
 intro aA s σ H x y v u Q I rx ry h
 obtain⟨a,b,ys,rfl,rfl,ha,hb,q⟩:=h;cases rx
 cases ry
 obtain⟨its,r1,p1,_⟩:=I.tuple ha;obtain⟨its2,r2,p2,_⟩:=I.tuple hb;cases r1
 obtain⟨⟨cls,dd,data,sl⟩,ho,hc,n,hd⟩:=id p1;obtain⟨⟨cls2,dd2,data2,sl2⟩,ho2,hc2,n2,hd2⟩:=id p2;simp only at hc hd hc2 hd2;subst hc hd hc2 hd2;exact concat_meets ⟨_,ho,rfl⟩ ⟨_,ho2,rfl⟩ fU seq_tuple_add F.slot_tuple_add F.entry_tuple_add (F.args_tuple_add_2 _ _) (adw a b its2.toArray n n2 dd dd2 sl sl2) ⟨ho,ho2,⟨.ref b,H,I,rfl,q⟩⟩
end TPM
namespace L2
open PyProof.Rows
section
variable{X:Cx}
theorem Inv.lstR(I:Inv X aA σ H s)(hH:Rd H l (.lst xs)):xs.length<=sizeLine/\∃(its:List Value) (n:Nat),Vals xs its/\xs.length=its.length/\s.heap.get? l=some {cls:=.type "list",data:=.seq its.toArray n}:=by
 obtain⟨z,its,n,r,e⟩:=hH.ok I.hok;exact⟨z,its,n,r,r.length,e⟩
noncomputable def aue:R2:=λx y H Q=>∃l b xs zs,x=.ref l/\y=.ref b/\Rd H l (.lst xs)/\Rd H b (.lst zs)/\xs.length+zs.length<=sizeLine/\∀p,H p=none->Q (.ref p) (upd H p (.lst (xs++zs)))
theorem apb:OpR X (binaryOp .Add) aue:=λaA s σ H x y v u Q I rx ry ⟨l,b,xs,zs,ex,ey,h1,h2,hz,q⟩=>by
 subst ex ey;cases rx
 cases ry
 obtain⟨_,as,_,va,la,ea⟩:=I.lstR h1;obtain⟨_,bs,_,vb,lb,eb⟩:=I.lstR h2;have app:as.toArray++bs.toArray=(as++bs).toArray:=by simp
 refine PySem.P.add_list ea eb ?_ (by simp;omega)
 rw[app];exact⟨.ref _,_,I.lnew (t':=s.toks) (va.append vb) (by simpa using hz),rfl,q _ I.fresh⟩
def auf:V->List V->Hp->VK->Prop:=λx vs H Q=>∃l b xs zs,x=.ref l/\vs=[.ref b]/\H l=some (.lst xs)/\Rd H b (.lst zs)/\xs.length+zs.length<=sizeLine/\Q .non (upd H l (.lst (xs++zs)))
theorem adx:MtM X "list.extend" auf:=λaA s σ H x vs v us Q I rx rv ⟨l,b,xs,zs,ex,ev,h1,h2,hz,q⟩=>by
 subst ex ev;cases rx
 obtain⟨u,rfl,ru⟩:=rv.one;cases ru
 obtain⟨_,as,n,va,la,ea⟩:=I.lstM h1;obtain⟨_,bs,m,vb,lb,eb⟩:=I.lstR h2;have few:as.toArray.size+bs.toArray.size<=sizeLine:=by simp;omega
 have long:¬ (!as.toArray.isEmpty && Builtin.List.listTooLong (as.toArray.size+bs.toArray.size))=true:=by rw[a5c few,cP];exact aU
 exact cN F.slot_list_extend ⟨_,ea,rfl⟩ F.entry_list_extend (F.args_list_extend_2 _ _) (AutoSeq1.list_extend_list_list_0 l as.toArray n b bs.toArray m long (by simp;omega) (by omega))
  ⟨ea,eb,.non,_,I.lset (its':=as++bs) h1 ea (by simp) (va.append vb) (by simpa using hz),rfl,q⟩
noncomputable def auh:R2:=λx y H Q=>∃l k xs,x=.ref l/\y=.int k/\Rd H l (.lst xs) /\ -(2^63)<=k/\k<2^63/\xs.length*k.toNat<=sizeLine/\∀p,H p=none->Q (.ref p) (upd H p (.lst (List.replicate k.toNat xs).flatten))
theorem apc(its:List Value)(k:Nat):List.foldl (λx1 x2=>x1++x2) #[] (List.replicate (if its.toArray.isEmpty=true then 0 else k) its.toArray)=(List.replicate k its).flatten.toArray:=by
 have g:∀m:Nat,List.foldl (λx1 x2=>x1++x2) #[] (List.replicate m its.toArray)=(List.replicate m its).flatten.toArray:=λm=>by simpa using foldl_rep its m []
 cases its with
 |nil=>simp
 |cons a r=>rw[aO (by simp),g]
theorem apd:OpR X (binaryOp .Mult) auh:=λaA s σ H x y v u Q I rx ry ⟨l,k,xs,ex,ey,h1,k1,k2,hz,q⟩=>by
 subst ex ey;cases rx
 obtain⟨t,rfl⟩:=ry;obtain⟨_,as,n,va,la,ea⟩:=I.lstR h1;have few:as.toArray.size*k.toNat<=sizeLine:=by rw[aw,<-la];exact hz
 have top:(sizeLine:Nat)<=(2^63-1) / 8:=by decide
 refine cM (T := "list") (U := "int") (by decide) ⟨_,ea,rfl⟩ (λs'=>dJ s' k t) noFill_list_mul eF cI repeat_list eh.lookup
  (cN cI (dJ s k t) ei (e7 _ _) (int___rmul___int_list k t l as.toArray n)
   ⟨ea,rfl,⟨_,ea,rfl⟩,cN F.slot_list_mul ⟨_,ea,rfl⟩ F.entry_list_mul (F.args_list_mul_2 _ _)
    (eG l as.toArray n k t (by rw[fitsIndex_both k1 k2];exact aU) (by omega) (by rw[a5c few];exact aU)) ⟨ea,?_⟩⟩)
 rw[apc];exact⟨.ref _,_,I.lnew (t':=s.toks) (va.rep k.toNat) (by rw[len_rep,eC];exact hz),rfl,q _ I.fresh⟩
end
end L2
namespace MI
open L2 TPM
noncomputable def zg(d:D)(h:Hd):Option (List D):=match d with
 |.rol xs=>some xs
 |.ref i=>(match h[i]? with|some (.lst xs)=>some xs|_=>none)
 |_=>none
section
variable{K:Fg}{U:List Addr}{H:Hp}{h:Hd}
theorem a2d(r:Rep K U H x d)(hr:HRep K U H h)(e:zg d h=some xs):∃a vs,x=.ref a/\Rd H a (.lst vs)/\Reps K U H vs xs:=by
 cases r with
 |@rol a vs ys hp rs=>cases e;exact⟨a,vs,rfl,.inr hp,rs⟩
 |@ref a i hp =>
  obtain⟨ob,e1,e2⟩:=hr.at hp;simp only[zg,e1]at e
  cases ob with
  |lst ys=>cases e;obtain⟨vs,h3,h4⟩:=e2;exact⟨a,vs,rfl,.inl h3,h4⟩
  |_=>cases e
 |_=>cases e
noncomputable def dm:D->D->Hd->R D
 |.int i,.int j,h=>.ok (.int (i+j)) h
 |.str x,.str y,h=>if x.length+y.length<=LINE then .ok (.str (x++y)) h else .no
 |.tup [],.tup ys,h=>.ok (.tup ys) h
 |.tup (x::xs),.tup ys,h=>if (x::xs).length+ys.length<=LINE then .ok (.tup (x::xs++ys)) h else .no
 |x,y,h=>match zg x h,zg y h with
  |some xs,some ys=>if xs.length+ys.length<=LINE then .ok (.ref h.length) (h++[.lst (xs++ys)]) else .no
  |_,_=>.no
theorem agb(e1:zg x h=some xs)(e2:zg y h=some ys):dm x y h=if xs.length+ys.length<=LINE then .ok (.ref h.length) (h++[.lst (xs++ys)]) else .no:=by
 cases x<;>first|(cases e1;done)|(cases y<;>first|(cases e2;done)|(simp only[dm,e1,e2]))
theorem ape(x y:D)(h:Hd):(∃i j,x=.int i/\y=.int j)\/(∃i j,x=.str i/\y=.str j)\/(∃xs ys,x=.tup xs/\y=.tup ys)\/(∃xs ys,zg x h=some xs/\zg y h=some ys)\/dm x y h=.no:=by
 cases e1:zg x h with
 |some xs =>
  cases e2:zg y h with
  |some ys=>exact .inr (.inr (.inr (.inl ⟨xs,ys,rfl,rfl⟩)))
  |none =>
   refine .inr (.inr (.inr (.inr ?_)))
   cases x<;>first|(cases e1;done)|(simp only[dm,e1,e2])
 |none =>
  cases x with
  |int i=>cases y<;>first|exact .inl ⟨_,_,rfl,rfl⟩|exact .inr (.inr (.inr (.inr rfl)))
  |str i=>cases y<;>first|exact .inr (.inl ⟨_,_,rfl,rfl⟩)|exact .inr (.inr (.inr (.inr rfl)))
  |tup i=>cases y<;>first|exact .inr (.inr (.inl ⟨_,_,rfl,rfl⟩))|(cases i<;>exact .inr (.inr (.inr (.inr rfl))))
  |_=>refine .inr (.inr (.inr (.inr ?_)));simp only[dm,e1]
theorem ajx:a01 K dm (λx y H Q=>(rI0 (λi j=>.int (i+j)) x y H Q\/(∃i j,x=.str i/\y=.str j/\i.length+j.length<=sizeLine/\Q (.str (i++j)) H)\/asd K x y H Q\/aue x y H Q)\/aud K x y H Q):=by
 intro E U H h x y dx dy Q rx ry hr o
 rcases ape dx dy h with⟨i,j,rfl,rfl⟩|⟨i,j,rfl,rfl⟩|⟨xs,ys,rfl,rfl⟩|⟨xs,ys,e1,e2⟩|e
 .cases rx;cases ry
  exact .inl (.inl ⟨i,j,rfl,rfl,ans o (.int _) hr⟩)
 .cases rx;cases ry
  simp only[dm]at o
  split at o
  .rename_i hc;exact .inl (.inr (.inl ⟨i,j,rfl,rfl,ll hc,ans o (.str _) hr⟩))
  .exact o.elim
 .cases rx with
  |@tup a vs _ ha r1 =>
  cases ry with
  |@tup b us _ hb r2 =>
  cases xs with
  |nil=>cases r1;exact .inr ⟨a,b,us,rfl,rfl,SqT.of ha,SqT.of hb,ans o (.tup hb r2) hr⟩
  |cons z xs =>
   simp only[dm]at o
   split at o
   .rename_i hc;refine .inl (.inr (.inr (.inl ⟨a,b,vs,us,rfl,rfl,SqT.of ha,SqT.of hb,λz=>(by subst z;cases r1),ll (by rw[r1.len,r2.len];exact hc),λz=>?_,λ_=>?_⟩)))
    .subst z;cases r2
     rw[bX]at o;exact ans o (.tup ha r1) hr
    .exact a0r (r1.app r2) hr o
   .exact o.elim
 .rw[agb e1 e2]at o;obtain⟨a,vs,rfl,h1,h2⟩:=a2d rx hr e1;obtain⟨b,us,rfl,h3,h4⟩:=a2d ry hr e2
  split at o
  .rename_i hc;exact .inl (.inr (.inr (.inr ⟨a,b,vs,us,rfl,rfl,h1,h3,ll (by rw[h2.len,h4.len];exact hc),vq (h2.app h4) hr o⟩)))
  .exact o.elim
 .rw[e]at o;exact o.elim
theorem agc(ha:ME X E a fa)(hb:ME X E b fb):ME X E (.BinOp a .Add b pos) (s2 dm fa fb) :=
 a90 (OpR.or (arv.or (adc.or (ao4.or apb))) apa) ajx ha hb
open Classical in
def yq(x y:D)(h:Hd):R D:=match y with
 |.int k=>(match x with
  |.int i=>if CMul i k then .ok (.int (i*k)) h else .no
  |_=>match zg x h with
   |some xs=>if (-(2^63)<=k/\k<2^63)/\xs.length*k.toNat<=LINE then .ok (.ref h.length) (h++[.lst (List.replicate k.toNat xs).flatten]) else .no
   |none=>.no)
 |_=>.no
theorem ajy:a01 K yq (λx y H Q=>rI CMul (λi j=>.int (i*j)) x y H Q\/auh x y H Q):=by
 intro E U H h x y dx dy Q rx ry hr o
 cases dy with
 |int k =>
  obtain rfl:=afu ry
  cases hx:zg dx h with
  |some xs =>
   obtain⟨a,vs,rfl,h1,h2⟩:=a2d rx hr hx;have o':out K E (ur K) U H (if (-(2^63)<=k/\k<2^63)/\xs.length*k.toNat<=LINE then .ok (.ref h.length) (h++[.lst (List.replicate k.toNat xs).flatten]) else .no) Q:=by
    cases dx<;>first|(cases hx;done)|(simp only[yq,hx]at o;exact o)
   split at o'
   .rename_i hc;exact .inr ⟨a,k,vs,rfl,rfl,h1,hc.1.1,hc.1.2,ll (by rw[h2.len];exact hc.2),vq (h2.flat _) hr o'⟩
   .exact o'.elim
  |none =>
   cases dx with
   |int i =>
    obtain rfl:=afu rx
    by_cases hc:CMul i k
    .simp only[yq,av hc]at o;exact .inl ⟨i,k,rfl,rfl,hc,ans o (.int _) hr⟩
    .simp only[yq,aO hc]at o;exact o.elim
   |_=>simp only[yq,hx]at o;exact o.elim
 |_=>exact o.elim
theorem apf(ha:ME X E a fa)(hb:ME X E b fb):ME X E (.BinOp a .Mult b pos) (s2 yq fa fb):=a90 (aen.or apd) ajy ha hb
noncomputable def agd:D->List D->Hd->R D
 |.ref i,[.tup ys],h=>(match h[i]? with|some (.lst xs)=>if xs.length+ys.length<=LINE then .ok .non (h.set i (.lst (xs++ys))) else .no|_=>.no)
 |.ref i,[y],h=>(match h[i]?,zg y h with|some (.lst xs),some ys=>if xs.length+ys.length<=LINE then .ok .non (h.set i (.lst (xs++ys))) else .no|_,_=>.no)
 |_,_,_=>.no
theorem ajz:aqx K agd (λx vs H Q=>auf x vs H Q\/abv K x vs H Q):=by
 intro E U H h x dx xs ds Q rx r hr o
 unfold agd at o
 split at o
 .rename_i i ys
  cases rx with
  |@ref p _ hp =>
   cases r with
   |cons r1 rs =>
    cases rs
    cases r1 with
    |@tup b us zs hb rb =>
     split at o
     .rename_i xs hx;obtain⟨vs,h3,h4⟩:=hr.lst hp hx
      split at o
      .rename_i hc;exact .inr ⟨p,b,vs,us,rfl,rfl,h3,SqT.of hb,ll (by rw[h4.len,rb.len];exact hc),aam (h4.app rb) hr hp .non o⟩
      .exact o.elim
     .exact o.elim
 .rename_i i y _
  cases rx with
  |@ref p _ hp =>
   cases r with
   |cons r1 rs =>
    cases rs
    split at o
    .rename_i xs ys hx hy;obtain⟨vs,h3,h4⟩:=hr.lst hp hx;obtain⟨b,us,rfl,h5,h6⟩:=a2d r1 hr hy
     split at o
     .rename_i hc;exact .inl ⟨p,b,vs,us,rfl,rfl,h3,h5,ll (by rw[h4.len,h6.len];exact hc),aam (h4.app h6) hr hp .non o⟩
     .exact o.elim
    .exact o.elim
 .exact o.elim
end
end MI
namespace L2
open PyProof.Rows
noncomputable def ixI(n:Int):List Int->Option Nat
 |[]=>none
 |a::l=>if a=n then some 0 else (ixI n l).map (·+1)
end L2
namespace MI
open L2
noncomputable def ayb:D->Option Key
 |.int i=>some (.inl i)
 |.str x=>some (.inr x)
 |_=>none
noncomputable def b0r:D->Option (List Key)
 |.tup xs=>a1a ayb xs
 |_=>none
noncomputable def putD{κ:Type}[DecidableEq κ](kvs:List (κ×D))(k:κ)(d:D):List (κ×D):=if (kvs.any λkv=>decide (kv.1=k))=true then kvs.map λkv=>if kv.1=k then (kv.1,d) else kv else kvs++[(k,d)]
section
variable{K:Fg}{U:List Addr}{H:Hp}{h:Hd}
noncomputable def b0s:D->Option (Int×List Int)
 |.tup [.int r,.tup xs]=>(a96 xs).map λts=>(r,ts)
 |_=>none
variable{X:Cx}{E:XD}{a b e o i:Expr}{fa fb fc:SE}{pos:Pos}
noncomputable def b0t(o k v:D)(h:Hd):Option Hd:=match o with
 |.ref i=>(match h[i]? with
  |some (.dK kvs)=>(match ayb k with|some kk=>if kvs.length<LINE then some (h.set i (.dK (putD kvs kk v))) else none|none=>none)
  |some (.dT kvs)=>(match b0r k with|some kk=>if kvs.length<LINE then some (h.set i (.dT (putD kvs kk v))) else none|none=>none)
  |some (.dN kvs)=>(match b0s k with|some kk=>if kvs.length<LINE then some (h.set i (.dN (putD kvs kk v))) else none|none=>if kvs=[] then (ayb k).map λkk=>h.set i (.dK [(kk,v)]) else none)
  |_=>none)
 |_=>none
noncomputable def ak0(fe fo fi:SE):SS:=λτ h=>(fe τ h).fl λv h1=>(fo τ h1).fl λo h2=>(fi τ h2).fl λk h3=>match b0t o k v h3 with|some h4=>.nx τ h4|none=>.no
end
end MI
namespace MI
open L2 ZP
noncomputable def apg(x:D)(h:Hd):R Itm:=match srcOf x h with
 |some (xs,c)=>.ok ⟨((List.range xs.length).zip xs).map λp=>.tup [.int (p.1:Nat),p.2],c⟩ h
 |none=>.no
def aui(f:SE):SI:=λτ h=>(f τ h).bind apg
end MI
namespace MI
open L2
noncomputable def b0u(lo:Int)(n:Nat):List D:=(List.range n).map λi=>D.int (lo-(i:Nat))
noncomputable def auj(ds:List D)(h:Hd):R Itm:=match ds with
 |[.int i,.int j,.int k]=>if k = -1/\B62 i/\B62 j then .ok ⟨b0u i (i-j).toNat,λ_=>True⟩ h else .no
 |_=>.no
theorem aph:bootBuiltins "repr" = some (.builtin "repr"):=by decide +kernel
theorem bw{α β:Type}(a:α)(h:Hd)(k:α->Hd->R β):(R.ok a h).bind k=k a h:=rfl
theorem a1k{α:Type}(a:α)(h:Hd)(k:α->Hd->Fl):(R.ok a h).fl k=k a h:=rfl
noncomputable def thn(r:Fl)(g:SS):Fl:=match r with|.nx τ h=>g τ h|r=>r
theorem wz(f g:SS)(τ:Sd)(h:Hd):gh f g τ h=thn (f τ h) g:=by unfold gh thn;cases f τ h<;>rfl
theorem a1l(τ:Sd)(h:Hd)(g:SS):thn (.nx τ h) g=g τ h:=rfl
theorem a5y(d:D)(h:Hd)(g:SS):thn (.rt d h) g=.rt d h:=rfl
noncomputable def toR(r:Fl):R D:=match r with|.rt d h1=>.ok d h1|.nx _ h1=>.ok .non h1|.ex c h1=>.ex c h1|_=>.no
theorem du(b:SS)(n:Nat)(ds:List D)(h:Hd):jt b n ds h=toR (b (a3n n ds) h):=by unfold jt toR;cases b (a3n n ds) h<;>rfl
theorem a72(d:D)(h:Hd):toR (.rt d h)=.ok d h:=rfl
theorem ach(τ:Sd)(h:Hd):toR (.nx τ h)=.ok .non h:=rfl
theorem iz:∀{xs:List D},clos n xs↔∀x∈xs,clo n x
 |[]=>by simp[clos]
 |x::xs=>by simp[clos,iz (xs:=xs)]
theorem dh(i:Int):clo n (.int i):=by simp[clo]
theorem cu(i:Str):clo n (.str i):=by simp[clo]
theorem uv(i:Bool):clo n (.bl i):=by simp[clo]
theorem uw:clo n .non:=by simp[clo]
theorem dz:clos n []:=by simp[clos]
theorem bj(a:clo n x)(b:clos n xs):clos n (x::xs):=by simp only[clos];exact⟨a,b⟩
theorem jc(h:clos n xs):clo n (.tup xs):=by simpa[clo] using h
theorem vy(h:clos n xs):clo n (.rol xs):=by simpa[clo] using h
theorem g8{α:Type}{n:Nat}{f:α->D}{l:List α}(h:∀a∈l,clo n (f a)):clos n (l.map f):=by
 rw[iz]
 intro x hx
 obtain⟨a,ha,rfl⟩:=bD.mp hx;exact h a ha
mutual
theorem a5z(hm:n<=m):∀{d:D},clo n d->clo m d
 |.non,_=>by simp[clo]
 |.bl _,_=>by simp[clo]
 |.int _,_=>by simp[clo]
 |.str _,_=>by simp[clo]
 |.ty _,_=>by simp[clo]
 |.tup xs,h=>by simp only[clo]at h ⊢;exact vz hm h
 |.rol xs,h=>by simp only[clo]at h ⊢;exact vz hm h
 |.scr xs,h=>by simp only[clo]at h ⊢;exact vz hm h
 |.rod _ xs,h=>by simp only[clo]at h ⊢;exact vz hm h
 |.rdT _ xs,h=>by simp only[clo]at h ⊢;exact vz hm h
 |.exc _,_=>by simp[clo]
 |.ins _ _ xs,h=>by simp only[clo]at h ⊢;exact vz hm h
 |.ref i,h=>by simp only[clo]at h ⊢;omega
theorem vz(hm:n<=m):∀{xs:List D},clos n xs->clos m xs
 |[],_=>by simp[clos]
 |x::xs,h=>by simp only[clos]at h ⊢;exact⟨a5z hm h.1,vz hm h.2⟩
end
theorem a0d(hm:n<=m)(h:yc n o):yc m o:=by
 cases o with
 |lst xs=>exact vz hm h
 |dK kvs=>exact vz hm h
 |dT kvs=>exact vz hm h
 |ins _ _=>exact vz hm h
 |dN _=>exact vz hm h
theorem aav{α:Type}{f:α->Option α}:∀{xs:List α},(∀x∈xs,f x=some x)->a1a f xs=some xs
 |[],_=>rfl
 |x::xs,h=>by
  unfold a1a;rw[h x aY,aav λy hy=>h y (aQ _ hy)]
theorem aci(c:clo n d):a5u n h (k+1) d=some d:=by unfold a5u;rw[av c]
theorem ak1(c:yc n o):au9 n h k o=some o:=by unfold au9;rw[av c]
theorem ak2{n k i:Nat}{h:Hd}{xs:List D}(hi:n<=i)(e:h[i]? = some (.lst xs))(c:clos n xs):a5u n h (k+2) (.ref i)=some (.rol xs):=by
 unfold a5u;rw[aO (by simp only[clo];omega)]
 simp only[e];rw[aav λx hx=>aci (iz.mp c x hx)];rfl
theorem aaw{n:Nat}{d d':D}{h1:Hd}(e:a5u n h1 FU d=some d')(c:∀o∈h1.take n,yc n o):a9a n (.ok d h1)=.ok d' (h1.take n):=by
 unfold a9a;simp only[e];rw[aav λo ho=>ak1 (c o ho)]
theorem km{h1:Hd}(e:clo n d)(c:∀o∈h1.take n,yc n o):a9a n (.ok d h1)=.ok d (h1.take n):=aaw (aci e) c
theorem a7w(hi:n<=i)(e:h1[i]? = some (.lst xs))(cx:clos n xs)(c:∀o∈h1.take n,yc n o):a9a n (.ok (.ref i) h1)=.ok (.rol xs) (h1.take n):=aaw (ak2 hi e cx) c
theorem a4x(e:f τ h=.ok (.ref h.length) (h++[.lst xs]))(cx:clos h.length xs)(c:∀o∈h,yc h.length o):sZ f τ h=.ok (.rol xs) h:=by
 unfold sZ;rw[e,a7w (a9 _) (by simp) cx (by simpa using c)]
 simp
def Pu(F:SF)(n:Nat)(ds:List D)(d:D):Prop:=∀h,gm false n F ds h=.ok d h
def Dr(F:SF)(n:Nat)(ds:List D)(o:O)(d:D)(o':O):Prop:=∀p h,h[p]? = some o->gm false n F (.ref p::ds) h=.ok d (h.set p o')
theorem a3q:∀{ds:List D},(∀d∈ds,clo 0 d)->a0s ds=[]/\a0c 0 ds=ds/\∀k,a0c k ds=ds
 |[],_=>⟨rfl,rfl,λ_=>rfl⟩
 |d::ds,h=>by
  obtain⟨a,b,c⟩:=a3q (ds:=ds) λx hx=>h x (aQ _ hx);have hd:=h d aY;have nr:refOf d=none:=by cases d<;>first|rfl|(simp only[clo]at hd;omega)
  refine⟨?_,?_,λk=>?_⟩
  .simpa[a0s,nr] using a
  .cases d<;>first|(simp only[clo]at hd;omega)|(simp only[a0c,b])
  .cases d<;>first|(simp only[clo]at hd;omega)|(simp only[a0c,c])
theorem Pu.of{ds:List D}(hn:ds.length=n)(cd:∀x∈ds,clo 0 x)(e:F ds []=r)(z:a9a 0 r=.ok d [])(c:clo 0 d):Pu F n ds d:=λh=>by
 obtain⟨p1,p2,_⟩:=a3q cd;unfold gm;rw[av hn];unfold amq;rw[p1];simp only[a1a,bp,cK,eP];rw[av ⟨dM,λx hx=>.inl (cd x hx),λo ho=>by simp at ho⟩,p2,e,z]
 simp[c,ug]
theorem Dr.of{ds:List D}(hn:ds.length+1=n)(cd:∀x∈ds,clo 0 x)(co:yc 0 o)(e:F (.ref 0::ds) [o]=r)(z:a9a 1 r=.ok d [o'])(c:clo 0 d)(co':yc 0 o'):Dr F n ds o d o':=λp h hp=>by
 obtain⟨p1,_,p3⟩:=a3q cd;have e1:a0s (.ref p::ds)=[p]:=by
  have:a0s (.ref p::ds)=p::a0s ds:=rfl
  rw[this,p1]
 have e2:a0c 0 (.ref p::ds)=.ref 0::ds:=by
  have:a0c 0 (.ref p::ds)=.ref 0::a0c 1 ds:=rfl
  rw[this,p3]
 unfold gm;rw[av (by simpa using hn)]
 unfold amq;rw[e1];simp only[a1a,hp,aE,cK,eP];have all:∀x∈(D.ref p::ds),clo 0 x\/isRef x:=λx hx=>by
  rcases aZ.mp hx with rfl|hx
  .exact .inr ⟨p,rfl⟩
  .exact .inl (cd x hx)
 rw[av ⟨by simp,all,λu hu=>by rw[aK.mp hu];exact co⟩,e2,e,z]
 simp[c,co',ug]
theorem auk{ds:List D}(hn:ds.length=n)(cd:∀x∈ds,clo 0 x)(e:F ds []=.ok (.ref i) h1)(ho:h1[i]? = some o)(co:yc 0 o)(h:Hd):gm true n F ds h=.ok (.ref h.length) (h++[o]):=by
 obtain⟨p1,p2,_⟩:=a3q cd;unfold gm;rw[av hn];unfold amq;rw[p1];simp only[a1a,bp,ef];rw[av ⟨dM,λx hx=>.inl (cd x hx),λo ho=>by simp at ho⟩,p2,e]
 unfold aqy;simp only[ho];rw[av ⟨bH _,co,by simp⟩]
 simp[co,ug]
theorem ak3(g:SG)(b:SS)(τ:Sd)(h:Hd):forL (λ_=>True) g b [] τ h=.nx τ h:=by rw[forL,av True.intro]
noncomputable def trn(r:Fl)(k:Sd->Hd->Fl):Fl:=match r with|.nx τ h=>k τ h|.ct τ h=>k τ h|.bk τ h=>.nx τ h|r=>r
theorem age(g:SG)(b:SS)(x:D)(xs:List D)(τ τ1:Sd)(h h1:Hd)(e:g x τ h=.nx τ1 h1):forL (λ_=>True) g b (x::xs) τ h=trn (b τ1 h1) (forL (λ_=>True) g b xs):=by
 rw[forL,av True.intro,e];dsimp only;unfold trn
 cases b τ1 h1<;>rfl
theorem aul(τ:Sd)(h:Hd)(k:Sd->Hd->Fl):trn (.nx τ h) k=k τ h:=rfl
theorem aum(d:D)(h:Hd)(k:Sd->Hd->Fl):trn (.rt d h) k=.rt d h:=rfl
theorem a3r{g:SG}{b:SS}{α:Type}(f:α->D)(I:List α->Sd->Hd->Prop)(Rt:D->Hd->Prop):∀(xs pre:List α) (τ:Sd) (h:Hd),
  (∀pre' x post τ h,pre++xs=pre'++x::post->I pre' τ h->∃τ1 h1,g (f x) τ h=.nx τ1 h1/\((∃τ2 h2,b τ1 h1=.nx τ2 h2/\I (pre'++[x]) τ2 h2)\/∃d h2,b τ1 h1=.rt d h2/\Rt d h2))->I pre τ h->
  (∃τ' h',forL (λ_=>True) g b (xs.map f) τ h=.nx τ' h'/\I (pre++xs) τ' h')\/∃d h',forL (λ_=>True) g b (xs.map f) τ h=.rt d h'/\Rt d h'
 |[],pre,τ,h,_,i0=>.inl ⟨τ,h,ak3 ..,by simpa using i0⟩
 |x::xs,pre,τ,h,st,i0=>by
  obtain⟨τ1,h1,e1,q⟩:=st pre x xs τ h rfl i0;rw[bg,age _ _ _ _ _ _ _ _ e1]
  rcases q with⟨τ2,h2,e2,i2⟩|⟨d,h2,e2,r⟩
  .rw[e2,aul];have:=a3r f I Rt xs (pre++[x]) τ2 h2 (λpre' y post τ h e=>st pre' y post τ h (by simpa using e)) i2
   simpa using this
  .rw[e2,aum];exact .inr ⟨d,h2,rfl,r⟩
theorem a3s{g:SG}{b:SS}{α:Type}(f:α->D)(I:List α->Sd->Hd->Prop)(xs:List α)(τ:Sd)(h:Hd)
  (st:∀pre x post τ h,xs=pre++x::post->I pre τ h->∃τ1 h1,g (f x) τ h=.nx τ1 h1/\∃τ2 h2,b τ1 h1=.nx τ2 h2/\I (pre++[x]) τ2 h2) (i0:I [] τ h) :
  ∃τ' h',forL (λ_=>True) g b (xs.map f) τ h=.nx τ' h'/\I xs τ' h':=by
 rcases a3r f I (λ_ _=>False) xs [] τ h (λpre' x post τ h e i=>let ⟨τ1,h1,a,b⟩:=st pre' x post τ h e i; ⟨τ1,h1,a,.inl b⟩) i0 with⟨τ',h',a,b⟩|⟨_,_,_,z⟩
 .exact⟨τ',h',a,b⟩
 .exact z.elim
theorem acj{f:D->Hd->R D}{α:Type}(g:α->D)(I:List α->List D->Hd->Prop):∀(xs pre:List α) (ys:List D) (h:Hd),
  (∀pre' x post ys h,pre++xs=pre'++x::post->I pre' ys h->∃y h',f (g x) h=.ok y h'/\I (pre'++[x]) (ys++[y]) h')->I pre ys h->∃zs h',mapR (λ_=>True) f (xs.map g) h=.ok zs h'/\I (pre++xs) (ys++zs) h'
 |[],pre,ys,h,_,i0=>⟨[],h,by rw[cY,mapR,av True.intro],by simpa using i0⟩
 |x::xs,pre,ys,h,st,i0=>by
  obtain⟨y,h1,e1,i1⟩:=st pre x xs ys h rfl i0;obtain⟨zs,h',e2,i2⟩:=acj g I xs (pre++[x]) (ys++[y]) h1 (λpre' z post ys h e=>st pre' z post ys h (by simpa using e)) i1
  refine⟨y::zs,h',?_,by simpa using i2⟩
  rw[bg,mapR,av True.intro,e1];show(mapR _ f (xs.map g) h1).bind _=_;rw[e2];rfl
theorem a9e{f:D->Hd->R D}{α:Type}(g F:α->D){h:Hd}:∀{xs:List α},(∀x∈xs,f (g x) h=.ok (F x) h)->mapR (λ_=>True) f (xs.map g) h=.ok (xs.map F) h
 |[],_=>by rw[cY,mapR,av True.intro];rfl
 |x::xs,st=>by
  rw[bg,mapR,av True.intro,st x aY];show(mapR _ f (xs.map g) h).bind _=_;rw[a9e g F λy hy=>st y (aQ _ hy)];rfl
theorem a9f{f:D->Hd->R (Option D)}{α:Type}(g:α->D)(F:α->Option D){h:Hd}:∀{xs:List α},(∀x∈xs,f (g x) h=.ok (F x) h)->ai7 (λ_=>True) f (xs.map g) h=.ok (xs.filterMap F) h
 |[],_=>by rw[cY,ai7,av True.intro];rfl
 |x::xs,st=>by
  rw[bg,ai7,av True.intro,st x aY];show(ai7 _ f (xs.map g) h).bind _=_;rw[a9f g F λy hy=>st y (aQ _ hy)];show R.ok ((F x).toList++xs.filterMap F) h=_
  cases e:F x<;>simp[bN,e]
theorem ayc(I:Nat->Sd->Hd->Prop)(N:Sd->Hd->Prop)(Rt:D->Hd->Prop)
  (st:∀m τ h,I m τ h->(∃h1,c τ h=.ok false h1/\N τ h1)\/∃h1,c τ h=.ok true h1/\((∃τ2 h2 m',f τ h1=.nx τ2 h2/\m'<m/\I m' τ2 h2)\/∃d h2,f τ h1=.rt d h2/\Rt d h2)) :
  ∀(m n:Nat) (τ:Sd) (h:Hd),m<n->I m τ h->(∃τ' h',sWh c f n τ h=.nx τ' h'/\N τ' h')\/∃d h',sWh c f n τ h=.rt d h'/\Rt d h':=by
 intro m
 induction m using Nat.strongRecOn with
 |ind m ih =>
  intro n τ h hn i0
  cases n with
  |zero=>omega
  |succ n =>
   rcases st m τ h i0 with⟨h1,e1,q⟩|⟨h1,e1,q⟩
   .exact .inl ⟨τ,h1,by rw[sWh,e1];rfl,q⟩
   .rcases q with⟨τ2,h2,m',e2,lt,i2⟩|⟨d,h2,e2,r⟩
    .have e3:sWh c f (n+1) τ h=sWh c f n τ2 h2:=by
      rw[sWh,e1,a1k,av rfl,e2]
     rw[e3];exact ih m' lt n τ2 h2 (by omega) i2
    .refine .inr ⟨d,h2,?_,r⟩;rw[sWh,e1,a1k,av rfl,e2]
structure KD (P:Program) (w:World) (K:Fg) (a:Addr) (kvs:List (Str×Str)):Prop where
 sys:(a == sysModules)=false
 ex:∃(o:Obj) (vs:List (Key×Value)),K.lookup a=some o/\KV (kvs.map λp=>((.inr p.1:Key),V.str p.2)) vs/\∀h:Heap,h.get? a=some o->h.DictOf (a5h P w) a vs
section
variable{X:Cx}{E:XD}{e:Expr}{fa:SE}{pos p:Pos}{a:Addr}{kvs:List (Str×Str)}{x:Str}
theorem KD.at(kd:KD X.prog X.w X.K a kvs)(I:Inv X aA σ H s):∃vs,KV (kvs.map λp=>((.inr p.1:Key),V.str p.2)) vs/\s.heap.DictOf (a5h X.prog X.w) a vs:=by
 obtain⟨o,vs,l,r,d⟩:=kd.ex;exact⟨vs,r,d _ (I.bk _ _ (I.mod.kin _ _ l))⟩
end
mutual
def toPy:D->Option PyData
 |.non=>some .none
 |.bl b=>some (.bool b)
 |.int i=>some (.int i)
 |.str x=>some (.str x)
 |.tup xs=>(aax xs).map .tuple
 |.rol xs=>(aax xs).map .list
 |.rod [] []=>some (.dict [])
 |_=>none
def aax:List D->Option (List PyData)
 |[]=>some []
 |x::xs=>match toPy x,aax xs with|some p,some ps=>some (p::ps)|_,_=>none
end
mutual
def noL:D->Bool
 |.rol _=>false
 |.tup xs=>aqz xs
 |_=>true
def aqz:List D->Bool
 |[]=>true
 |x::xs=>noL x && aqz xs
end
section
variable{P:Program}{w:World}{K:Fg}{U:List Addr}{H:Hp}{h:Heap}
mutual
theorem agf(ok:HOk P w H h):∀(d:D) {v:V} {u:Value} {p:PyData},Rep K U H v d->RelV v u->toPy d=some p->∃as,Reads h u p as/\(noL d=true->sysModules∉as)
 |.non=>by
  rename_i v u p
  intro rp r e
  cases rp;cases e
  obtain rfl:u=Value.none:=r
  exact⟨_,.none,λ_=>by simp⟩
 |.bl b=>by
  rename_i v u p
  intro rp r e
  cases rp;cases e
  obtain rfl:u=Value.bool b:=r
  exact⟨_,.bool b,λ_=>by simp⟩
 |.int i=>by
  rename_i v u p
  intro rp r e
  cases rp;cases e
  obtain⟨t,rfl⟩:=r;exact⟨_,.int i t,λ_=>by simp⟩
 |.str x=>by
  rename_i v u p
  intro rp r e
  cases rp;cases e
  obtain⟨t,rfl⟩:=r;exact⟨_,.str x t,λ_=>by simp⟩
 |.tup xs=>by
  rename_i v u p
  intro rp r e
  cases rp with
  |@tup a _ _ hp rs =>
  simp only[toPy,aP]at e;obtain⟨ps,e,rfl⟩:=e;obtain rfl:u=Value.ref a:=r;obtain⟨_,its,vr,o,e1,⟨e2,_⟩,n,e3⟩:=(show ObjOk P w H h a (.tup _) from ok a _ hp)
  obtain⟨as,q,s⟩:=a7x ok xs rs vr e;exact⟨as,.tuple e1 e2 e3 q,λz=>s (by simpa[noL] using z)⟩
 |.rol xs=>by
  rename_i v u p
  intro rp r e
  cases rp with
  |@rol a _ _ hp rs =>
  simp only[toPy,aP]at e;obtain⟨ps,e,rfl⟩:=e;obtain rfl:u=Value.ref a:=r;obtain⟨o,hp⟩:=hp;obtain⟨_,_,its,n,vr,e1⟩:=(show ObjOk P w H h a (.frz o (.lst _)) from ok a _ hp)
  obtain⟨as,q,s⟩:=a7x ok xs rs vr e;exact⟨a::as,.list e1 rfl rfl q,λz=>by simp[noL]at z⟩
 |.rod ks xs=>by
  rename_i v u p
  intro rp r e
  cases ks with
  |cons k ks=>simp[toPy]at e
  |nil =>
   cases xs with
   |cons x xs=>simp[toPy]at e
   |nil =>
    cases rp with
    |@rod a _ us _ _ hp ek rs =>
    simp only[toPy,Option.some.injEq]at e;subst e;obtain rfl:u=Value.ref a:=r;obtain⟨_,_,sy,vs,kv,o,es,ep,e1,e2,e3,_,pr,_⟩:=(show ObjOk P w H h a (.frz _ (.dK _)) from ok a _ hp)
    have us0:=fw.mp ek;subst us0;cases kv
    have:es.toList=[]:=by cases hh:es.toList with|nil=>rfl|cons x y=>rw[hh]at pr;cases pr
    refine⟨_,.dict (kvs:=[]) e1 e2.1 e3 (by rw[this];exact .nil) (by rw[this];exact .nil),λ_=>?_⟩
    intro z
    simp at z
    subst z;simp at sy
 |.ty _=>by intro rp r e;simp[toPy]at e
 |.scr _=>by intro rp r e;simp[toPy]at e
 |.ref _=>by intro rp r e;simp[toPy]at e
 |.rdT _ _=>by intro rp r e;simp[toPy]at e
 |.exc _=>by intro rp r e;simp[toPy]at e
 |.ins _ _ _=>by intro rp r e;simp[toPy]at e
theorem a7x(ok:HOk P w H h):∀(ds:List D) {vs:List V} {us:List Value} {ps:List PyData},Reps K U H vs ds->Vals vs us->aax ds=some ps->∃as,ReadsAll h us ps as/\(aqz ds=true->sysModules∉as)
 |[]=>by
  intro rs qs e
  cases rs;cases qs;cases e
  exact⟨[],.nil,λ_=>by simp⟩
 |d::ds=>by
  intro rs qs e
  cases rs with
  |cons r rs =>
  cases qs with
  |cons q qs =>
  simp only[aax]at e
  split at e
  .rename_i p ps' e1 e2;cases e
   obtain⟨as,a1,s1⟩:=agf ok d r q e1;obtain⟨bs,a2,s2⟩:=a7x ok ds rs qs e2;refine⟨as++bs,.cons a1 a2,λz=>?_⟩;simp only[aqz,af]at z
   intro m
   rcases bb.mp m with m|m
   .exact s1 z.1 m
   .exact s2 z.2 m
  .cases e
end
theorem api(ok:HOk P w H h){v:V}{d:D}{u:Value}{p:PyData}(rp:Rep K U H v d)(r:RelV v u)(e:toPy d=some p):∃as,Reads h u p as/\(noL d=true->sysModules∉as):=agf ok d rp r e
end
def okR(d:D)(p:PyData):Prop:=(p.hasDict=true->noL d=true)/\p.showable=true/\p.depth<=60/\p.shown.length<=sizeLine
def aun(K:Fg):List V->Hp->VK->Prop:=λxs H Q=>∃v U d p,xs=[v]/\Rep K U H v d/\toPy d=some p/\okR d p/\Q (.str p.shown) H
theorem agg{X:Cx}(hg:X.A.guards=some [])(hu:X.A.units+64<cLine):CallR X (.builtin "repr") (aun X.K):=by
 intro aA s σ H xs us Q I r ⟨v,U,d,p,ex,rp,ep,⟨hd,hs,dp,sz⟩,q⟩
 subst ex;obtain⟨u,rfl,rx⟩:=vals1 r;have big:∀a:Addr,u=.ref a->wpAny (model X.prog X.w) X.A (call (.builtin "repr") [u]) (EP X aA σ Q) X.xe s:=λa eu=>by
  subst eu;obtain⟨as,rd,sy⟩:=api I.hok rp rx ep;exact repr_of_reads' rd hs (λz=>sy (hd z)) hg (by omega) (λb o e=>e) (λh' u tk hk=>⟨.str p.shown,H,I.kept hk,⟨u,rfl⟩,q⟩) sz
 cases rp with
 |non =>
  cases ep
  obtain rfl:u=Value.none:=rx
  exact PySem.P.repr_of_none ⟨.str _,H,I.tok _,⟨_,rfl⟩,q⟩
 |bl b =>
  cases ep
  obtain rfl:u=Value.bool b:=rx
  exact PySem.P.repr_of_bool ⟨.str _,H,I.tok _,⟨_,rfl⟩,q⟩
 |int i =>
  cases ep
  obtain⟨t,rfl⟩:=rx;exact PySem.P.repr_of_int (by simpa[PyData.showable] using hs) ⟨.str _,H,I.tok _,⟨_,rfl⟩,q⟩
 |str x =>
  cases ep
  obtain⟨t,rfl⟩:=rx;exact PySem.P.repr_of_str ⟨.str _,H,I.tok _,⟨_,rfl⟩,q⟩ sz
 |@tup a vs xs hp r=>exact big a rx
 |@rol a vs xs hp r=>exact big a rx
 |@rod a o us ks xs hp ek rs=>exact big a rx
 |ty _=>cases ep
 |scr _ _=>cases ep
 |ref _=>cases ep
 |rdT _ _ _=>cases ep
 |exc _ _ _=>cases ep
 |ins _ _ _ _=>cases ep
open Classical in
def ady:List D->Hd->R D
 |[x],h=>(match toPy x with|some p=>if okR x p then .ok (.str p.shown) h else .no|none=>.no)
 |_,_=>.no
theorem ak4:abx K ady (aun K):=by
 intro E U H h xs ds Q r hr o
 unfold ady at o
 split at o
 .split at o
  .rename_i p ep
   split at o
   .rename_i ok
    cases r with
    |cons r rs =>
     cases rs
     exact⟨_,U,_,p,rfl,r,ep,ok,ans o (.str _) hr⟩
   .exact o.elim
  .exact o.elim
 .exact o.elim
theorem a9g:CallR X (.builtin "isinstance") (λxs H Q=>∃a o us T b,xs=[.ref a,.ty T]/\H a=some (.frz o (.dK us))/\PySem.W.kitOne X.K (.type "dict") (.type T)=some b/\Q (.bl b) H):=by
 intro aA s σ H xs us Q I r h
 obtain⟨a,o,kv,T,b,rfl,ea,e,q⟩:=h;obtain⟨u,w',rfl,rx,rt⟩:=vals2 r;cases rt
 obtain rfl:u=Value.ref a:=rx
 obtain⟨_,_,_,vs,_,p⟩:=(show ObjOk X.prog X.w H s.heap a (.frz o (.dK kv)) from I.hok a _ ea)
 obtain⟨o',es,ep,h1,h2,_⟩:=p;exact bR fJ I.kIn ⟨o',h1,h2.1⟩ e (λz=>nomatch z) λtk=>⟨.bl b,H,I.tok tk,rfl,q⟩
noncomputable def m5:List D->Hd->R D
 |[.rod ks xs,.ty T],h=>(match ai9 "dict" T with|some b=>.ok (.bl b) h|none=>.no)
 |ds,h=>amk ds h
theorem ak5:abx K m5 (λxs H Q=>(∃x T t b,xs=[x,.ty T]/\TyOf K H x t/\PySem.W.kitOne K t (.type T)=some b/\Q (.bl b) H)\/∃a o us T b,xs=[.ref a,.ty T]/\H a=some (.frz o (.dK us))/\PySem.W.kitOne K (.type "dict") (.type T)=some b/\Q (.bl b) H):=by
 intro E U H h xs ds Q r hr o
 unfold m5 at o
 split at o
 .split at o
  .rename_i b hb
   cases r with
   |cons r1 rs =>
    cases rs with
    |cons r2 rs2 =>
     cases rs2
     cases r2
     cases r1 with
     |rod hp ek rr=>exact .inr ⟨_,_,_,_,b,rfl,hp,afx hb,ans o (.bl _) hr⟩
  .exact o.elim
 .exact .inl (aoz E U H h xs _ Q r hr o)
end MI
namespace SRC
open L2 MI
def ux:SE :=
 (s2 dm (s2 yq (sI 2) (sA awv (aj (sV 0) aq))) (sA ajk (aj (s2 gLt (sV 0) (sI 0)) aq)))
def xq:SS :=
 (gh (j5 1 (sZ (mj (sIt (sZ (vm (sV 0) oN (oS (sI 63))))) t1 ux [])))
 (jf (sA ye (aj (sV 1) (aj (sI 0) (aj (sI 0) (aj (sI 0) (aj (s2 a3z (sA a71 (aj (sV 1) aq)) (sI 2147483647)) aq))))))))
def a0k:SS :=
 (gh (a1j a1h (sV 0) (sI 3) (sI 1))
 (gh (sIf (yp (sT (s2 hEq (s2 gIx (sV 0) (sI 2)) (sI 0))) (sT (s2 gLt (s2 gIx (sV 0) (sI 1)) (sA kj (aj (s2 gIx (sV 0) (sI 0)) aq)))))
 (gh (j5 2 (s2 gIx (s2 gIx (sV 0) (sI 0)) (s2 gIx (sV 0) (sI 1))))
 (gh (a1j a1h (sV 0) (sI 1) (sI 1))
 (sIf (sT (s2 gGe (sV 2) (s2 a6z (sI 10) (sI 18))))
 (adp (sV 2) (sV 0) (sI 2))
 (adp (s2 a3z (s2 dm (s2 yq (s2 gIx (sV 0) (sI 4)) (sI 31)) (sV 2)) (sI 2147483647)) (sV 0) (sI 4)))))
 sNx)
 (gh (sIf (sT (s2 gGt (s2 gIx (sV 0) (sI 2)) (sI 0)))
 (gh (j5 3 (s2 a3z (s2 gIx (sV 0) (sI 2)) (sV 1)))
 (gh (a1j a6m (sV 0) (sI 2) (sV 1))
 (jf (sV 3))))
 sNx)
 (gh (j5 3 (s2 a3z (s2 a6z (s2 dm (s2 dm (s2 gIx (sV 0) (sI 4)) (sI 1)) (s2 yq (s2 gIx (sV 0) (sI 3)) (sI 7919))) (sI 3)) (sI 2147483647)))
 (jf (s2 a3z (s2 a6m (s2 a3z (s2 a6z (s2 dm (s2 yq (sV 3) (sI 48271)) (s2 gIx (sV 0) (sI 3))) (sI 2)) (sI 2147483629)) (sI 64)) (sV 1)))))))
def wg:SS :=
 (gh (j5 0 (sC (.str " !\"#$&'()*+,-./0123456789:;<=>?@ABCDEFGHIJKLMNOPQRSTUVWXYZ[\\]^_`")))
 (jf (s2 dm (sV 0) (sC (.str "abcdefghijklmnopqrstuvwxyz{|}~\n")))))
def uy(ak:SF)(b8:SF):SS :=
 (gh (j5 4 (sA (gm false 2 ak) (aj (sV 0) (aj (sA kj (aj (sV 1) aq)) aq))))
 (gh (abz 2 a1h (s2 gIx (sV 1) (sV 4)))
 (j5 1 (s2 dm (vm (sV 1) oN (oS (sV 4))) (vm (sV 1) (oS (s2 dm (sV 4) (sI 1))) oN)))))
def xr(ak:SF)(b8:SF):SS :=
 (gh (j5 1 (sA (gm false 0 b8) aq))
 (gh (j5 2 (sC (.str "")))
 (gh (adq (sRg a02 (aj (s2 dm (sI 1) (sA (gm false 2 ak) (aj (sV 0) (aj (sI 6) aq)))) aq)) (kN 3) (uy ak b8))
 (jf (sV 2)))))
end SRC
namespace L2
open PySem.W PyProof.Rows
structure Air (stack:List Env) (H:Hp) (h0 B:Heap) (a C:Addr) (t:Value) (h:Heap):Prop where
 fly:Heap.FlyingW B stack a (.ref C) t h
 bk:∀b o,h.get? b=some o->b∉frs stack->(H b≠none\/∃o0,h0.get? b=some o0)->B.get? b=some o
noncomputable def CXE(P:Program)(w:World):CXT:=λouter H s E e s' =>
 ∃a C t B H',e=.ref a/\s'.os=s.os/\AllBare s'.gens/\Un (frs outer) [] H H' s.heap s'.heap/\HOk P w H' s'.heap/\Air outer H' s.heap B a C t s'.heap/\E (.ref C) none H'
section
variable{P:Program}{w:World}{H H':Hp}{h h':Heap}
theorem HOk.is(x:HOk P w H h)(e:H a=some o):∃ob,h.get? a=some ob:=by
 have:=x a o e
 cases o with
 |lst xs=>obtain⟨_,_,_,_,e⟩:=this;exact⟨_,e⟩
 |tup xs=>obtain⟨_,_,_,ob,e,_⟩:=this;exact⟨_,e⟩
 |dK kvs=>obtain⟨_,_,_,_,o,_,_,e,_⟩:=this;exact⟨_,e⟩
 |dT kvs=>obtain⟨_,_,_,_,o,_,_,e,_⟩:=this;exact⟨_,e⟩
 |set S n=>obtain⟨o,_,_,_,e,_⟩:=this;exact⟨_,e⟩
 |ins C dx fs=>obtain⟨_,_,_,e,_⟩:=this;exact⟨_,e⟩
 |own y=>exact this
 |xd fs=>obtain⟨_,⟨_,_,_,e,_⟩,_⟩:=this;exact⟨_,e⟩
 |rng lo hi=>obtain⟨_,_,_,e⟩:=this;exact⟨_,e⟩
 |frz ob u=>exact⟨_,this.1⟩
 |tbl ps=>exact⟨_,this⟩
 |met f y=>exact⟨_,this⟩
 |ext φ=>exact this.2.1
theorem HOk.track(x:HOk P w H h)(k:∀b u,H b≠none->h.get? b=some u->h'.get? b=some u):HOk P w H h':=λa o e =>
 (x a o e).stay (λb u hb q=>k b u (by
  rcases hb with rfl|hb
  .rw[e];simp
  .rw[hb];simp) q) (λ_ q=>q) λ_ _ q=>q
end
section
variable{P:Program}{w:World}{K:Fg}{mg:Str->Option Value}{base:Heap}{N:List Str}{qual:Str}{aB:Scope}{f:Addr}{cd:Value}{A:Around}{outer:List Env}{s0:Shared}{H0:Hp}{E:XK}{aA:List (Addr×Obj)}{σ:St}{H:Hp}{s:Shared}
abbrev cxE(P:Program)(w:World)(K:Fg)(mg:Str->Option Value)(base:Heap)(N:List Str)(qual:Str)(aB:Scope)(f:Addr)(cd:Value)(A:Around)(outer:List Env)(s:Shared)(H:Hp)(E:XK):Cx:=aex (CXE P w) P w K mg base N qual aB f cd A outer s H E
theorem ak6{B:Heap}{h2:Heap}(I:Inv (cxE P w K mg base N qual aB f cd A outer s0 H0 E) aA σ H {s with heap:=h1})(hB:∀b o,h1.get? b=some o->b∉frs (envOfC qual aB s0.heap.objs.size f cd::outer)->(H b≠none\/∃o0,s0.heap.get? b=some o0)->B.get? b=some o)
  (sl:∀b o,h1.get? b=some o->b∈frs outer->∃sl,h2.get? b=some {o with slots:=sl}) (fly:Heap.FlyingW B outer a (.ref C) t h2) (e:E (.ref C) none H):CXE P w outer H0 s0 E (.ref a) {s with heap:=h2}:=by
 have lo:∀b,b∈frs (envOfC qual aB s0.heap.objs.size f cd::outer)->b=s0.heap.objs.size\/b∈frs outer:=λb hb=>by
  unfold frs at hb ⊢;rw[bN]at hb
  rcases aZ.mp hb with rfl|hb
  .exact .inl rfl
  .exact .inr hb
 have stk:∀b,b∈frs (envOfC qual aB s0.heap.objs.size f cd::outer)->H b=none:=λb hb=>I.stkFree b hb;have old:∀b o,s0.heap.get? b=some o->b∉frs outer->b∉frs (envOfC qual aB s0.heap.objs.size f cd::outer):=λb o q n z=>by
  rcases lo b z with rfl|z
  .exact absurd (aT q) (cH _)
  .exact n z
 have tr:∀b u,H b≠none->h1.get? b=some u->h2.get? b=some u:=λb u hn q=>fly.1 _ _ (hB b u q (λz=>hn (stk b z)) (.inl hn));have ba:=I.base;refine⟨a,C,t,B,H,rfl,I.os,I.bare,⟨?_,?_,ba.free,?_,ba.tups,ba.frzs,ba.tbls⟩,I.hok.track tr,⟨fly,?_⟩,e⟩
 .intro b o q n hf hx
  exact fly.1 _ _ (hB b o (ba.keep b o q n hf hx) (old b o q hf) (.inr ⟨o,q⟩))
 .intro b o q n hf hx
  obtain⟨s1,q1⟩:=ba.slot b o q n hf hx;obtain⟨s2,q2⟩:=sl b _ q1 hf;exact⟨s2,q2⟩
 .intro b o q hx
  obtain⟨o1,q1⟩:=ba.there b o q hx
  by_cases hf:b∈frs outer
  .obtain⟨s2,q2⟩:=sl b _ q1 hf;exact⟨_,q2⟩
  .exact⟨_,fly.1 _ _ (hB b o1 q1 (old b o q hf) (.inr ⟨o,q⟩))⟩
 .intro b o q nf c
  have hh:b∉frs (envOfC qual aB s0.heap.objs.size f cd::outer):=λz=>by
   rcases c with c|⟨o0,c⟩
   .exact c (stk b z)
   .exact old b o0 c nf z
  obtain⟨o1,q1⟩:∃o1,h1.get? b=some o1:=by
   rcases c with c|⟨o0,c⟩
   .cases e1:H b with
    |none=>exact absurd e1 c
    |some u=>exact I.hok.is e1
   .exact ba.there b o0 c (by intro z;cases z)
  have q2:=hB b o1 q1 hh c;have q3:=fly.1 _ _ q2;rw[q3]at q;cases q
  exact q2
theorem a65(I:Inv X aA σ H s)(hb:b∈frs X.stack)(q:s.heap.get? b=some o):∀vs,o.data≠.fields vs:=by
 obtain⟨_,o1,q1,d⟩:=I.stack.mem hb;rw[q]at q1;cases q1
 exact d
theorem ayd(I:Inv (cxE P w K mg base N qual aB f cd A outer s0 H0 E) aA σ H s)(mk:Heap.MadeExcOf s.heap h' a (.ref C) args)(e:E (.ref C) none H):(cxE P w K mg base N qual aB f cd A outer s0 H0 E).xe (.ref a) {s with heap:=h' }:=by
 have hin:∀b,b∈frs outer->b∈frs (envOfC qual aB s0.heap.objs.size f cd::outer):=λb hb=>by
  unfold frs at hb ⊢;rw[bN];exact aQ _ hb
 have st:=I.stack;refine wpAny_leaves_madeW (base:=hideAll s.heap (frs (envOfC qual aB s0.heap.objs.size f cd::outer))) (h:=s.heap) I.ok.frames (L:=s0.heap.objs.size) rfl (λb o q=>of_hideAll _ q) (funFrames_hide st λenv he b hb=>cX.mpr ⟨env,he,hb⟩) mk λh2 t fl tu bt up=>?_;exact ak6 (h1:=s.heap) I (λb o q nf _=>hideAll_get _ q nf) (λb o q hb=>up b o (mk.keeps b o q) (a65 I (hin b hb) q)) fl e
end
structure XCls (K:Fg) (C:Addr):Prop where
 obj:∃(nm q:Str) (N:Addr) (bs bm:List Value) (hdct:Bool) (sn:List Str) (sub:List Value) (ab:Bool) (col:Option Bool) (dd:Option Addr) (k0 k1 k2 k3 k5:Option Value),
  K.lookup C=some (excClassObj nm q C N bs bm hdct sn sub ab col dd k0 k1 k2 k3 k5 "ValueError.__new__")/\nsOkIn K N=true/\nsIn K N "__init__" = some none/\tailIn K [.type "ValueError",.type "Exception",.type "BaseException",.type "object"] bm=true
def auo(t:TA)(Ex:Hp->Prop):TS:=λ_ σ H=>t σ H λvs H1=>vs.length<=sizeLine/\Ex H1
section
variable{X:Cx}{C:Addr}{x:Str}{np cpos pos:Pos}{e:Expr}{es:List Expr}{t:TA}{Ex:Hp->Prop}
theorem ak7(hC:XCls X.K C)(hg:Gl X x)(hm:X.mg x=some (.ref C))(hc:X.calm=true)(ha:PA X (e::es) t)
  (lk:∀(aA:List (Addr×Obj)) (σ:St) (H:Hp) (s:Shared) (h':Heap) (a:Addr) (args:List Value),Inv X aA σ H s->Heap.MadeExcOf s.heap h' a (.ref C) args->Ex H->X.xe (.ref a) {s with heap:=h' })
  (hdb:(x == ("__debug__" : Str))=false:=by decide) (he:starEach (e::es) X.env=(false,eval e X.env)::starEach es X.env:=by rfl) (hpl:(backTo cpos (starEach es X.env)).any (·.1)=false:=by rfl) :
  PS X (.Raise (some (.Call (.Name x np) (e::es) [] cpos)) none pos) (auo t Ex):=by
 intro aA s σ H D I h
 obtain⟨nm,q,N,bs,bm,hdct,sn,sub,ab,col,dd,k0,k1,k2,k3,k5,lo,ok,ni,ti⟩:=hC.obj;refine wpAny_Raise_call_subT (C:=C) (nm:=nm) (q:=q) (N:=N) (bs:=bs) (bm:=bm) (hdct:=hdct) (sn:=sn) (sub:=sub) (ab:=ab) (col:=col) (dd:=dd) (k0:=k0) (k1:=k1) (k2:=k2) (k3:=k3) (k5:=k5)
  fD (mN:=X.base.nsMap N) ((tail_of_in I.kIn ti).hasType fD.hasBase) (I.ok.hd hc) (by rw[he];show(false || (backTo cpos (starEach es X.env)).any (·.1))=false;rw[hpl];rfl) (nsMap_none_of_in I.ok.mod.kin ok ni) (a4c I hg hm ⟨rfl,?_⟩ hdb)
 have h2:=ha cpos aA s σ H _ I h;rw[he]at h2 ⊢;refine eY (thn h2 λus s1 ⟨vs,H1,I1,r,z,ex⟩=>?_);exact⟨rfl,by rw[<-r.length];exact z,I1.kIn _ _ lo,.keeps (.of_isNs (isNs_of_in I1.ok.mod.kin ok)) I1.bk,tail_of_in I1.kIn ti,λh' a mk=>lk aA σ H1 s1 h' a us I1 mk ex⟩
end
end L2
namespace L2
open PySem.W PyProof.Rows Builtin Builtin.ObjectAttr Builtin.Getset_descriptor
section
variable{prog:Program}{w:World}{A:Around}{E:Value->Shared->Prop}{s:Shared}{K:Frag}{x D:Addr}{ox:Obj}{odo:Option Obj}
structure XKit (K:Frag) (D:Addr):Prop where
 ga:findIn K (.ref D) "__getattribute__" = some (some (.builtin "BaseException.__getattribute__"))
 gn:findIn K (.ref D) "__getattr__" = some none
 cl:(clsIn K D).isSome=true
 ca:findIn K (.ref D) "__class__" = some (some (.builtin "object.__class__"))
 sp:specialIn K (.builtin "object.__class__") "__get__" = some (some (.builtin "getset_descriptor.__get__"))
 tk:takesIn K (.builtin "object.__class__")=some true
 ob:mroIn K D (.type "object")=some true
 be:subIn K (.ref D) (.type "BaseException")=some true
 kc:kitCls K (.ref D) (.ref D)=some true
abbrev ExAt(x D:Addr)(h:Heap):Prop:=∃o,h.get? x=some o/\o.cls=.ref D
theorem ExAt.ty(I:ExAt x D h):Looks M h (typeOf (.ref x)) (.ref D):=by
 obtain⟨o,q,c⟩:=I;exact c ▸ (Looks.ld q).andThen .now
theorem apj(Z:XKit K D)(X:K.In s.heap)(I:ExAt x D s.heap)(h:R (.ok (.ret (.ref D))) s):codeAny (model prog w) A (.call (.builtin "getset_descriptor.__get__") ⟨[.builtin "object.__class__",.ref x,tp],[]⟩) R s:=by
 obtain⟨hh,g,d,t,os⟩:=s;have T0:=ExAt.ty (M:=model prog w) I;have T1:=looks_mroIn (M:=model prog w) X Z.ob;refine eZ KF.slot_gs.plain KF.entry_gs (KF.slot_gs.check _ _ _ _ _ _ _ _ KF.type_class (KF.args_gs _ _ _) ?_);unfold Builtin.«getset_descriptor.__get__» descrGet;rw[dga_obj];refine ax (aS ?_);unfold descrGetter descrCheckInstance descrNameAndClass isInstance;simp only[KF.owner_class]
 repeat lk
 refine⟨Code.quiet_builtin _ (by decide +kernel),fv KF.entry_class ?_⟩;unfold Builtin.«object.__class__» shownTypeOf
 repeat lk
 exact h
theorem ak8(Z:XKit K D)(X:K.In h):Looks M h (Builtin.ObjectAttr.find (.ref x) (.ref D) "__class__") (.bind (.builtin "getset_descriptor.__get__") (.builtin "object.__class__")):=by
 refine(looks_findIn X Z.ca).andThen (Looks.andThen (a:=some (.builtin "getset_descriptor.__get__")) (looks_specialIn X Z.sp) (Looks.andThen (a:=some (.builtin "getset_descriptor.__get__",.builtin "object.__class__")) ?_ (Looks.tag .now)));exact(looks_takesIn X Z.tk).andThen .now
theorem agh(Z:XKit K D)(X:K.In s.heap)(I:ExAt x D s.heap)(h:Q (some (.ref D)) {s with toks:=s.toks+1}):wpAny (model prog w) A (getAttr? (.ref x) "__class__") Q E s:=by
 obtain⟨hh,g,d,t,os⟩:=s;have T0:=ExAt.ty (M:=model prog w) I;have T1:=looks_findIn (M:=model prog w) X Z.ga;have T2:=looks_findIn (M:=model prog w) X Z.gn;have T3:=ak8 (M:=model prog w) (x:=x) Z X;have T4:Looks (model prog w) hh (isInstance (.ref x) (.type "BaseException")) true:=T0.andThen (looks_subIn X Z.be);have f3:=fz.ga.bind (.ref x);have nb:(Value.builtin "BaseException.__getattribute__" == Value.builtin "object.__getattribute__")=false:=by decide +kernel
 have nh:(onTheHeap (Value.ref D) && Value.builtin "BaseException.__getattribute__" == Value.builtin "object.__getattribute__")=false:=by rw[nb];rfl
 unfold getAttr? getAttrBy? getAttrBy;refine ax (wpAny_mkText (ax (wpAny_attempt (cW (ax (T0.at (ax (T1.at ?_))))))));dsimp only;rw[nh,aO aU];unfold getAttrByItsOwn;show wpAny _ _ (typeLookup (.ref D) "__getattr__">>=λbefore=>_) _ _ _;refine ax (T2.at (ax (wpAny_attempt (cW ?_))));show wpAny _ _ (boundAndCalled _ _ _) _ _ _;unfold boundAndCalled;rw[f3];refine ax (aS (wpAny_call (eZ fz.ga.plain PySem.F.entry_bexc_ga ?_)))
 have k1:builtinKind "BaseException.__getattribute__" = some .slot:=by decide +kernel
 have k2:splitId "BaseException.__getattribute__" = some ("BaseException","__getattribute__"):=by decide +kernel
 have k3:=PySem.F.args_bexc_ga (.ref x) (.str "__class__" t);simp only[checkBuiltinCall,k1,k2];show wpAny _ _ (isInstance (.ref x) (.type "BaseException")>>=λb=>_) _ _ _;refine ax (T4.at ?_);rw[aO (by decide)]
 refine bP (Q:=λ_ s'=>s'=⟨hh,g,d,t+1,os⟩) (E:=λ_ _=>False) ?_ (λu s' e=>?_) (λ_ _ z=>z.elim)
 .repeat (any_goals (first|assumption|rfl|wp_step))
 .subst e;unfold Builtin.«object.__getattribute__»
  repeat (first|with_reducible refine T0.at ?_|with_reducible refine T3.at ?_|wp_step)
  exact apj (s:=⟨hh,g,d,t+1,os⟩) Z X I (aS (handed_on rfl (aS h)))
theorem XKit.at(Z:XKit K D):∃c o cd sl,K.lookup D=some ⟨c,o,.cls cd,sl⟩:=by
 have:=Z.cl
 unfold clsIn at this
 split at this
 .exact⟨_,_,_,_, ‹_›⟩
 .cases this
theorem XKit.no(Z:XKit K D){its:List Value}(X:K.In h)(q:h.get? tp=some ⟨.type "tuple",dd,.seq its.toArray n,sl⟩):(Value.ref D == .ref tp)=false :=
 bQ.mpr λe=>by
  obtain⟨_,_,_,_,lo⟩:=Z.at;rw[Value.ref.inj e]at lo;have:=X _ _ lo;rw[q]at this;cases this
theorem ack(Z:XKit K D):KitX K (.ref x) (.ref D) (ExAt x D) :=
 ⟨λ_ _ _ I=>ExAt.ty I,λ_ _ X _=>(kit_cls X Z.kc).2.1,λ_ _ _ _ _ _ X q=>Z.no X q,λX I q=>agh Z X I q⟩
end
end L2
namespace L2
open PySem.W PyProof.Rows
section
variable{X:Cx}{aA:List (Addr×Obj)}{σ:St}{H H1 H':Hp}{s s1 s':Shared}
theorem a7y(I:Inv X aA σ H s)(hN:X.N.Nodup)(hi:X.N[i]? = some n)(hk:X.env.scope.names.lookup n=some .local)
  (h:∀s',Inv X aA (σ.set i none) H s'->Q () s'):wpAny M A (do bindName X.env n .none;unbindBehindTheSuite X.env n pos) Q E s:=by
 obtain⟨m,hn,hl⟩:=id I.loc;have hcls:(X.env.scope.kind == .class || (X.env.scope.kind == .module && X.env.locals != X.env.globals))=false:=by rw[I.ok.kind];rfl
 have cne:=I.cne;obtain⟨oL,_,_,hoL,_⟩:=id hn;refine wpAny_nameGoes_keeps hk hn hcls λh' v hn' hs=>h _ ?_;have far:∀b o,X.s₀.heap.get? b=some o->b≠X.env.locals:=λb o e=>bV (aX (aT e) I.ok.above);refine⟨I.ok,I.os,I.bare,⟨λb o e n hb hx=>(hs.2 b (far b o e)).trans (I.base.keep b o e n hb hx),λb o e n hb hx=>?_,I.base.free,λb o e hx=>?_,I.base.tups,I.base.frzs,I.base.tbls⟩,⟨_,hn',λj y v' e1 e2 e3=>?_⟩,λy c e=>?_,I.free,I.freeC,λp hp=>?_,I.hok.track λb u hb q=>?_,by simpa using I.len⟩
 .obtain⟨sl,q⟩:=I.base.slot b o e n hb hx;exact⟨sl,(hs.2 b (far b o e)).trans q⟩
 .obtain⟨o1,q⟩:=I.base.there b o e hx;exact⟨o1,(hs.2 b (far b o e)).trans q⟩
 .have ji:j≠i:=λz=>by
   subst z;rw[List.getElem?_set]at e2;simp at e2
  rw[cL (eD ji)]at e2;obtain⟨u',r',q⟩:=hl j y v' e1 e2 e3;refine⟨u',r',?_⟩
  rcases q with⟨k,e⟩|⟨k,c,e,z⟩
  .refine .inl ⟨k,?_⟩;have:y≠n:=λe=>ji (a7e hN e1 (e ▸ hi));simp[this,e]
  .exact .inr ⟨k,c,e,z.sameBut hs (cne y c e)⟩
 .obtain⟨w',z⟩:=I.cell y c e;exact⟨w',z.sameBut hs (cne y c e)⟩
 .obtain⟨e,n,ne,nf,d⟩:=I.pin p hp;exact⟨(hs.2 p.1 ne).trans e,n,ne,nf,d⟩
 .refine(hs.2 b λz=>?_).trans q;subst z;exact hb I.free
theorem amt(I1:Inv X aA σ H1 s1)(os:s'.os=s1.os)(bare:AllBare s'.gens)(un:Un (frs X.stack) [] H1 H' s1.heap s'.heap)(hok:HOk X.prog X.w H' s'.heap)(air:Air X.stack H' s1.heap B a C t s'.heap)
  (st:B.StaysIn h5) (up:s'.heap.UpToSlots h5) (tk:Nat):Inv X aA σ H' {s' with heap:=h5,toks:=tk}:=by
 have I2:Inv X aA σ H' s':=I1.call' os un hok bare (by intro b z;cases z)
 refine I1.call' (s':={s' with heap:=h5,toks:=tk}) os ⟨λb o q n hf hx=>?_,λb o q n hf hx=>?_,un.free,λb o q hx=>?_,un.tups,un.frzs,un.tbls⟩ (hok.track λb u hn q=>?_) bare (by intro b z;cases z)
 .exact st _ _ (air.bk b o (un.keep b o q n hf hx) hf (.inr ⟨o,q⟩))
 .obtain⟨s2,q2⟩:=un.slot b o q n hf hx;obtain⟨s3,q3⟩:=up b _ q2 (a65 I2 hf q2);exact⟨s3,q3⟩
 .obtain⟨o1,q1⟩:=un.there b o q hx
  by_cases hf:b∈frs X.stack
  .obtain⟨s3,q3⟩:=up b _ q1 (a65 I2 hf q1);exact⟨_,q3⟩
  .exact⟨_,st _ _ (air.bk b o1 q1 hf (.inr ⟨o,q⟩))⟩
 .exact st _ _ (air.bk b u q (λz=>hn (I2.stkFree b z)) (.inl hn))
abbrev Cx.inEx(X:Cx)(a:Addr):Cx:={X with A:=X.A.mark (some (.ref a)),calm:=false,xe:=λ_ _=>False}
theorem Cx.Ok.inEx(ok:X.Ok)(a:Addr):(X.inEx a).Ok:=⟨ok.mod,ok.kind,ok.glob,ok.blt,ok.above,ok.inj,ok.has,ok.cab,λz=>(Bool.noConfusion (show false=true from z)),ok.frames,ok.stk,ok.exf,ok.bs,ok.bsz,ok.noex,ok.exfs,ok.funs,ok.frf⟩
theorem Inv.inEx(I:Inv X aA σ H s)(a:Addr):Inv (X.inEx a) aA σ H s:=⟨I.ok.inEx a,I.os,I.bare,I.base,I.loc,I.cell,I.free,I.freeC,I.pin,I.hok,I.len⟩
theorem Inv.outEx(ok:X.Ok)(I:Inv (X.inEx a) aA σ H s):Inv X aA σ H s:=⟨ok,I.os,I.bare,I.base,I.loc,I.cell,I.free,I.freeC,I.pin,I.hok,I.len⟩
noncomputable def exO(a:Addr):HO:=.ext λh=>∃o,h.get? a=some o
theorem Inv.exc(I:Inv X aA σ H s)(I1:Inv X aA σ H1 s1)(he:s.heap.get? a=some oe)(ha:H a=none)(na:s1.heap.get? a=none):Inv X aA σ (upd H a (.frz oe (exO a))) s:=by
 have old:∀b o,s1.heap.get? b=some o->b≠a:=λb o q z=>by subst z;rw[na]at q;cases q
 have sm:∀b o,s1.heap.get? b=some o->upd H a (.frz oe (exO a)) b=H b:=λb o q=>jk (old b o q);have kp:∀b u,H b=some u->upd H a (.frz oe (exO a)) b=some u:=λb u q=>by
  rw[jk]
  .exact q
  .intro z;subst z;rw[ha]at q;cases q
 have ba:=I.base;refine⟨I.ok,I.os,I.bare,⟨ba.keep,ba.slot,λb o q n hx=>?_,ba.there,λb xs q=>kp _ _ (ba.tups b xs q),λb o u q=>kp _ _ (ba.frzs b o u q),λb ps q=>?_⟩,I.loc,I.cell,?_,λy c e=>?_,λp hp=>?_,λb u q=>?_,I.len⟩
 .obtain⟨o1,q1⟩:=I1.base.there b o q hx;rw[sm b o1 q1];exact ba.free b o q n hx
 .obtain⟨more,q1⟩:=ba.tbls b ps q;exact⟨more,kp _ _ q1⟩
 .obtain⟨_,⟨o,_,_,q,_⟩,_⟩:=I1.loc;rw[sm _ _ q];exact I.free
 .obtain⟨v,o,q,_⟩:=I1.cell y c e;rw[sm _ _ q];exact I.freeC y c e
 .obtain⟨e,n,ne,nf,d⟩:=I.pin p hp;exact⟨e,by rw[sm _ _ (I1.pin p hp).1];exact n,ne,nf,d⟩
 .by_cases hb:b=a
  .subst hb;rw[qe]at q;cases q
   exact⟨he,⟨oe,he⟩,⟨oe,he⟩,λh1 h2 ⟨o,q⟩ k=>⟨o,k o q⟩⟩
  .rw[jk hb]at q;exact(I.hok b u q).stay (λ_ _ _ z=>z) (λc z=>kp _ _ z) λc xs z=>kp _ _ z
end
def XP(X:Cx)(aA:List (Addr×Obj))(σ:St)(E:XK)(e:Value)(s':Shared):Prop:=∃s1 H1,Inv X aA σ H1 s1/\CXE X.prog X.w X.stack H1 s1 E e s'
structure Hnd (X:Cx) (R:Addr) (x n:Str) (i:Nat):Prop where
 hg:Gl X x
 hm:X.mg x=some (.ref R)
 nd:X.N.Nodup
 hi:X.N[i]? = some n
 lo:X.env.scope.names.lookup n=some .local
 st:X.stack=X.env::X.outer/\X.env.frame=some X.env.locals
 db:(x == ("__debug__" : Str))=false
section
variable{X:Cx}{aA:List (Addr×Obj)}{σ:St}{s s':Shared}
noncomputable def aye(D:Ends)(i:Nat):Ends:={nx:=λσ H=>D.nx (σ.set i none) H,rt:=D.rt,bk:=λσ H=>D.bk (σ.set i none) H,ct:=λσ H=>D.ct (σ.set i none) H}
theorem ak9(N:Hnd X R x n i)(hs:∀a,PSs (X.inEx a) (b0::suite) ts)
  (mt:∀C H,E (.ref C) none H->exmOne X.K (.ref C) (.ref R)=some true/\∀a oe,oe.cls=.ref C->H a=none->ts (aye D i) (σ.set i (some (.ref a))) (upd H a (.frz oe (exO a))))
  (h:XP X aA σ E e s') :
  wpAny (model X.prog X.w) X.A (noteFrame e X.env) (λ_ s2=>wpAny (model X.prog X.w) X.A (setFlight e none) (λ_ s3=>wpAny (model X.prog X.w) X.A (handleBy e X.env [.ExceptHandler (some (.Name x np)) (some n) (b0::suite) pos]) (SP X aA D) X.xe s3) X.xe s2) X.xe s':=by
 obtain⟨s1,H1,I1,a,C,t,B,H',rfl,os,bare,un,hok,air,e⟩:=h;obtain⟨mt1,mt2⟩:=mt C H' e;have ok:=I1.ok;have fr:X.A.frames=some (X.env::X.outer):=by rw[<-N.st.1];exact ok.frames
 have fl:=air.fly;rw[N.st.1]at fl;have na:s1.heap.get? a=none:=by
  cases q:s1.heap.get? a with
  |none=>rfl
  |some o =>
   obtain⟨oe,vs,he,_,hd,_⟩:=fl.first
   have I2:Inv X aA σ H' s':=I1.call' os un hok bare (by intro b z;cases z)
   have nf:a∉frs X.stack:=λz=>a65 I2 z he _ hd;have:=air.bk a oe he nf (.inr ⟨o,q⟩);rw[fl.2.1]at this;cases this
 have ha:H' a=none:=by
  cases q:H' a with
  |none=>rfl
  |some u =>
   obtain⟨oe,vs,he,_,hd,_⟩:=fl.first
   have I2:Inv X aA σ H' s':=I1.call' os un hok bare (by intro b z;cases z)
   have nf:a∉frs X.stack:=λz=>a65 I2 z he _ hd;have:=air.bk a oe he nf (.inl (by rw[q];simp))
   rw[fl.2.1]at this;cases this
 refine wpAny_looks_onW fr N.st.2 fl λh4 held4 up4=>?_;refine wpAny_landsW held4 λh5 fl5 up5=>?_;have I5:=amt I1 os bare un hok air fl5.1 (up4.trans up5) s'.toks;obtain⟨ob,hob,hobc⟩:=fl5.there;have I5m:=I5.inEx a;refine wpAny_handleBy_cons (codeAny_handlers_test (a4c I5m N.hg N.hm ?_ N.db)) (by intro q;cases q)
 have LT:Looks (model X.prog X.w) h5 (typeOf (.ref a)) (.ref C):=hobc ▸ (Looks.ld hob).andThen .now;refine(exm_one I5.kIn LT mt1).here ?_;refine codeAny_handlers_suite_as ?_;refine lands_againW fl5 λh6 fl6 up6=>?_;have I6:=amt I1 os bare un hok air fl6.1 ((up4.trans up5).trans up6) s'.toks;obtain⟨oe,vs,he,hec,hed,_⟩:=fl6.first
 have I7:=(I6.exc I1 he ha na).inEx a;refine a3f (X:=X.inEx a) I7 N.nd N.hi (.inl N.lo) (v:=.ref a) rfl (λs8 I8=>?_) (.inr N.lo);refine bP (hs a aA s8 _ _ (aye D i) I8 (mt2 a oe hec ha)) (λf s9 q=>?_) λ_ _ z=>z.elim;show wpAny (model X.prog X.w) X.A (do bindName X.env n .none;unbindBehindTheSuite X.env n pos) (λ_ s3=>SP X aA D f s3) X.xe s9
 cases f with
 |next =>
  obtain⟨σ',H9,I9,q⟩:=q;exact a7y (I9.outEx ok) N.nd N.hi N.lo λs10 I10=>⟨_,H9,I10,q⟩
 |brk =>
  obtain⟨σ',H9,I9,q⟩:=q;exact a7y (I9.outEx ok) N.nd N.hi N.lo λs10 I10=>⟨_,H9,I10,q⟩
 |cont =>
  obtain⟨σ',H9,I9,q⟩:=q;exact a7y (I9.outEx ok) N.nd N.hi N.lo λs10 I10=>⟨_,H9,I10,q⟩
 |ret u =>
  obtain⟨v,σ',H9,I9,r,q⟩:=q;exact a7y (I9.outEx ok) N.nd N.hi N.lo λs10 I10=>⟨v,_,H9,I10,r,q⟩
def PEx(X:Cx)(e:Expr)(t:St->Hp->VK->XK->Prop):Prop :=
 ∀(aA:List (Addr×Obj)) (s:Shared) (σ:St) (H:Hp) (Q:VK) (E:XK),Inv X aA σ H s->t σ H Q E->wpAny (model X.prog X.w) X.A (eval e X.env) (EP X aA σ Q) (XP X aA σ E) s
def PSx(X:Cx)(st:List Stmt)(t:Ends->XK->St->Hp->Prop):Prop :=
 ∀(aA:List (Addr×Obj)) (s:Shared) (σ:St) (H:Hp) (D:Ends) (E:XK),Inv X aA σ H s->t D E σ H->wpAny (model X.prog X.w) X.A (execs st X.env) (SP X aA D) (XP X aA σ E) s
variable{e:Expr}{es:List Expr}{pos:Pos}
theorem agi{st:Stmt}{D:Ends}{W:Value->Shared->Prop}(h:wpAny (model X.prog X.w) X.A (exec st X.env) (SP X aA D) W s):wpAny (model X.prog X.w) X.A (execs [st] X.env) (SP X aA D) W s:=by
 refine fT (thn h λf s1 q=>?_)
 cases f with
 |next=>exact dP q
 |ret v=>exact q
 |brk=>exact q
 |cont=>exact q
theorem apk(hN:X.N.Nodup)(hi:X.N[i]? = some x)(hx:Loc X.env.scope x)(he:PEx X e t)(hs:swapsWith e (some (.Name x pos')) pos.line X.env=pure false:=by rfl)(hf:Hf X x:=by first|exact .inl rfl|exact .inr rfl) :
  PSx X [.Assign [.Name x pos'] e pos] (λD E σ H=>t σ H (λv H1=>D.nx (σ.set i (some v)) H1) E):=by
 intro aA s σ H D E I h
 refine agi (wpAny_Assign_Name (thn (he aA s σ H _ E I h) λv s1 ⟨y,H1,I1,r1,q1⟩=>?_) hs);exact a3f I1 hN hi hx r1 (λs2 I2=>⟨_,H1,I2,q1⟩) hf
theorem aup(N:Hnd X R x n i)(hb:PSx X body t)(hs:∀a,PSs (X.inEx a) (b0::suite) ts) :
  PS X (.Try body [.ExceptHandler (some (.Name x np)) (some n) (b0::suite) hp] [] [] pos) (λD σ H=>t D (λcls d H'=>∃C,cls=.ref C/\exmOne X.K (.ref C) (.ref R)=some true/\∀a oe,oe.cls=.ref C->H' a=none->ts (aye D i) (σ.set i (some (.ref a))) (upd H' a (.frz oe (exO a)))) σ H):=by
 intro aA s σ H D I h
 refine wpAny_Try_except (bP (hb aA s σ H D _ I h) (λf s1 q=>?_) λe s1 q=>ak9 N hs (λC H' z=>?_) q)
 .cases f with
  |next=>exact dP q
  |ret v=>exact q
  |brk=>exact q
  |cont=>exact q
 .obtain⟨C',z,m1,m2⟩:=z;cases z
  exact⟨m1,m2⟩
theorem aka(F:FnOk X.prog X.w X.K X.mg X.base (CXE X.prog X.w) k f fd ps sp)(hr:Room k X.A)(hg:Gl X x)(hm:X.mg x=some (.ref f))(hk:PySem.W.keepIn X.K (.ref f)=true)(hb:Binds X.K fd ps [])
  (ha:PA X.nox (e::es) t) (hdb:(x == ("__debug__" : Str))=false:=by decide) (he:starEach (e::es) X.env=(false,eval e X.env)::starEach es X.env:=by rfl) (hpl:(backTo pos (starEach es X.env)).any (·.1)=false:=by rfl) :
  PEx X (.Call (.Name x p) (e::es) [] pos) (λσ H Q E=>t σ H λvs H1=>sp vs H1 Q E):=by
 intro aA s σ H Q E I h
 refine dO (a4c I hg hm ?_ hdb);refine PySem.W.callWith_K (h₀:=X.base) I.ok.mod.kin hk (bP (ha pos aA s σ H _ (I.wish _) h) (λus s1 ⟨vs,H1,I1,r,q⟩=>⟨I1.unwish.kIn,?_⟩) λ_ _ z=>z.elim) he hpl;have I1:=I1.unwish;have hl:us.length=ps.length:=by rw[<-r.length];exact F.len _ _ _ _ q
 have bd:=hb s1 us I1.kIn (by rw[bX];exact hl)
 rw[bX]at bd;refine wpAny_call (eR (F.run X.A X.stack s1 H1 ⟨us,[]⟩ us vs Q E hr I1.env0 bd r q) λr s' hq=>?_)
 cases r with
 |error e=>exact⟨s1,H1,I1,hq⟩
 |ok fl =>
  cases fl with
  |ret u=>exact I1.after hq
  |next=>exact False.elim hq
  |brk=>exact False.elim hq
  |cont=>exact False.elim hq
end
end L2
namespace MI
open L2
noncomputable def amu(mg:Str->Option Value)(E:XK):XD:=λc _ H' _=>∃C,mg c=some (.ref C)/\E (.ref C) none H'
noncomputable def spX(K:Fg)(mg:Str->Option Value)(n:Nat)(F:SF):Sp:=λvs H Q E=>vs.length=n/\∃U ds h,Reps K U H vs ds/\HRep K U H h/\out K (amu mg E) (ur K) U H (F ds h) Q
structure DnX (P:Program) (w:World) (K:Fg) (mg:Str->Option Value) (base:Heap) (k:Nat) (x:Str) (ps:List Str) (sp:Sp) (f:Addr) (fd:FuncData):Prop where
 ok:FnOk P w K mg base (CXE P w) k f fd ps sp
 m:mg x=some (.ref f)
 kp:PySem.W.keepIn K (.ref f)=true
 b:Binds K fd ps []
theorem apl(Fu:Fun K x qual st f fd)(S:FnScope N ps (ig st))
  (hb:∀(cdv:Value) (A:Around) (outer:List Env) (s:Shared) (H:Hp) (E:XK),Room k (A.deeper (PyProof.Rows.envOfC qual (ig st) s.heap.objs.size f cdv))->MSs (cxE P w K mg base N qual (ig st) f cdv A outer s H E) (amu mg E) (uq st) b) :
  FnOk P w K mg base (CXE P w) (k+1) f fd ps (spX K mg ps.length (jt b N.length)):=by
 obtain⟨oc,od,kV,doc,pm,an,cdv,ct,osl,rfl,lk,hcd⟩:=Fu.ex;refine asa lk hcd S (λvs H Q E h=>h.1) λA outer s H vs Q E hr h=>⟨_,hb cdv A outer s H E hr,?_⟩;obtain⟨hl,U,ds,h,r,hr',o⟩:=h;refine⟨U,a3n N.length ds,h,a6y r,hr',?_⟩;unfold jt at o
 cases hbd:b (a3n N.length ds) h with
 |rt d h1=>rw[hbd]at o;exact o
 |nx τ h1=>rw[hbd]at o;exact λU' H' σ' g1 S1 hr1=>o U' H' .non g1 .non hr1
 |ex c h1=>rw[hbd]at o;exact o
 |bk τ h1=>rw[hbd]at o;exact o.elim
 |ct τ h1=>rw[hbd]at o;exact o.elim
 |no=>rw[hbd]at o;exact o.elim
section
variable{K:Fg}{U:List Addr}{H:Hp}{h:Hd}{n:Nat}
def a9h(n:Nat)(F:SF):SF:=λds h=>open Classical in if ∀d∈ds,clo 0 d then (match F ds [] with|.ex c _=>if ds.length=n then .ex c h else .no|_=>gm false n F ds h) else .no
theorem noex:gm m n F ds h≠.ex c h1:=by
 unfold gm
 split
 .unfold amq
  intro e
  repeat (first|(split at e)|cases e)
 .intro e;cases e
theorem acl(ne:∀c h1,r≠.ex c h1)(o:out K E (ur K) U H r Q):out K E' (ur K) U H r Q:=by
 cases r with
 |ok a h=>exact o
 |ex c h=>exact absurd rfl (ne c h)
 |no=>exact o
theorem HRep.stays(hr:HRep K U H h)(k:∀a u,H a=some u->H' a=some u):Gr U H U H'/\HRep K U H' h:=by
 have G:Gr U H U H':=⟨⟨[],by simp,by simp⟩,λa vs q=>k _ _ q,λa o u q=>k _ _ q,λa u q _=>k _ _ q,λa u q=>⟨u,k _ _ q⟩⟩
 refine⟨G,hr.nd,hr.len,λi a o e1 e2=>?_⟩;have r:=hr.obj i a o e1 e2;obtain⟨u,hu,_⟩:=r.some;exact r.mono G (by rw[hu];exact k a u hu)
theorem a9i:∀{ds:List D},(∀d∈ds,clo 0 d)->clos 0 ds
 |[],_=>by simp[clos]
 |d::ds,h=>by simp only[clos];exact⟨h d aY,a9i λx hx=>h x (aQ _ hx)⟩
theorem akb(r:Reps K U H vs ds)(hr:HRep K U H h)(o:out K E2 (ur K) U H (a9h n F ds h) Q)(hE:∀c H' ,Gr U H U H'->HRep K U H' h->E2 c U H' h->amu mg E c U H' h) :
  spX K mg n F vs H (λv H1=>∃L,a99 H1 L/\∀H2,FrzOf L H1 H2->Q v H2) E:=by
 unfold a9h at o
 split at o
 .rename_i hc;have ok:out K E2 (ur K) U H (gm false n F ds h) Q->spX K mg n F vs H (λv H1=>∃L,a99 H1 L/\∀H2,FrzOf L H1 H2->Q v H2) E:=λo=>by
   obtain⟨l,U0,ds0,h0,r0,hr0,o0⟩:=a7u r hr (acl (E':=X0) (λc h1=>noex) o) E;refine⟨l,U0,ds0,h0,r0,hr0,?_⟩
   cases e:F ds0 h0 with
   |ok a h1=>rw[e]at o0;exact o0
   |ex c h1=>rw[e]at o0;exact λU' H' g hr=>(o0 U' H' g hr).elim
   |no=>rw[e]at o0;exact o0
  split at o
  .rename_i c hx e
   split at o
   .rename_i hl;have R0:Reps K [] H vs ds:=by
     have:=r.cut (a9i hc)
     rwa[fH]at this
    refine⟨by rw[r.len];exact hl,[],ds,[],R0,⟨dM,rfl,λi a o e1=>by simp at e1⟩,?_⟩
    rw[e]
    intro U' H' g _
    obtain⟨G,hr'⟩:=hr.stays λa u q=>g.oth a u q (by simp)
    exact hE c H' G hr' (o U H' G hr')
   .exact o.elim
  .exact ok o
 .exact o.elim
end
theorem akc(m:Bool){X:Cx}(G:Dn X.prog X.w X.K X.mg X.base k x ps (a0h X.K n F) f fd)(hr:Room k X.A)(hg:Gl X x)(ha:MA X E (e::es) ka)
  (hdb:(x == ("__debug__" : Str))=false:=by decide) (he:starEach (e::es) X.env=(false,eval e X.env)::starEach es X.env:=by rfl) (hpl:(backTo pos (starEach es X.env)).any (·.1)=false:=by rfl):ME X E (.Call (.Name x p) (e::es) [] pos) (sA (gm m n F) ka):=by
 refine PE.weak (aca (aew G.ok hr hg G.m G.kp G.b .nil ao8 ha hdb he hpl)) ?_
 rintro σ H Q ⟨U,τ,h,S,Rh,o⟩
 refine⟨U,τ,h,S,Rh,dg o λds h1 U1 H1 vs g1 r1 hr1 o1=>?_⟩;rw[bX];exact a7u r1 hr1 (acl (λc h1=>noex) o1) _
section
variable{P:Program}{w:World}{K:Fg}{mg:Str->Option Value}{base:Heap}{N:List Str}{qual:Str}{aB:Scope}{fa:Addr}{cd:Value}{A:Around}{outer:List Env}{s0:Shared}{H0:Hp}{E:XK}
noncomputable def a9j(c:Str)(ka:SA):SS:=λτ h=>(ka τ h).fl λds h1=>if ds.length<=LINE then .ex c h1 else .no
theorem acn(hC:XCls K C)(hg:Gl (cxE P w K mg base N qual aB fa cd A outer s0 H0 E) x)(hm:mg x=some (.ref C))(ha:MA (cxE P w K mg base N qual aB fa cd A outer s0 H0 E) (amu mg E) (e::es) ka)
  (hdb:(x == ("__debug__" : Str))=false:=by decide) (he:starEach (e::es) (cxE P w K mg base N qual aB fa cd A outer s0 H0 E).env=(false,eval e (cxE P w K mg base N qual aB fa cd A outer s0 H0 E).env)::starEach es (cxE P w K mg base N qual aB fa cd A outer s0 H0 E).env:=by rfl) (hpl:(backTo cpos (starEach es (cxE P w K mg base N qual aB fa cd A outer s0 H0 E).env)).any (·.1)=false:=by rfl) :
  MS (cxE P w K mg base N qual aB fa cd A outer s0 H0 E) (amu mg E) (.Raise (some (.Call (.Name x np) (e::es) [] cpos)) none pos) (a9j x ka):=by
 refine PS.weak (ak7 (X:=cxE P w K mg base N qual aB fa cd A outer s0 H0 E) (Ex:=λH=>E (.ref C) none H) hC hg hm rfl ha (λaA σ H s h' a args I mk z=>ayd I mk z) hdb he hpl) ?_
 rintro D σ H ⟨U,τ,h,S,Rh,o⟩
 refine⟨U,τ,h,S,Rh,ut o λds h1 U1 H1 vs g1 r1 hr1 o1=>?_⟩
 split at o1
 .rename_i hl;obtain⟨C',e1,z⟩:=o1 U1 H1 (.refl _ _) hr1;rw[hm]at e1;cases e1
  exact⟨by rw[r1.len];exact a7l hl,z⟩
 .exact o1.elim
end
def noX{α:Type}:R α->R α
 |.ex _ _=>.no
 |r=>r
noncomputable def qA{α:Type}(ka:Sd->Hd->R α):Sd->Hd->R α:=λτ h=>noX (ka τ h)
abbrev MEx(X:Cx)(e:Expr)(f:SE):Prop:=PEx X e λσ H Q E=>lift X.K (amu X.mg E) (ur X.K) f σ H Q
abbrev MSx(X:Cx)(st:List Stmt)(f:SS):Prop:=PSx X st λD E σ H=>a5t X.K (amu X.mg E) f D σ H
section
variable{X:Cx}
theorem apm(h:PEx X e t):PEx X e (λσ H Q E=>t σ H (λv H1=>∃L,a99 H1 L/\∀H2,FrzOf L H1 H2->Q v H2) E):=λaA s σ H Q E I q =>
 L2.thn (h aA s σ H _ E I q) λu s' ⟨v,H1,I1,r,L,ab,k⟩=>let ⟨H2,f,I2⟩:=Inv.frz I1 ab; ⟨v,H2,I2,r,k H2 f⟩
theorem agj(G:DnX X.prog X.w X.K X.mg X.base k x ps (spX X.K X.mg n F) f fd)(hr:Room k X.A)(hg:Gl X x)(ha:MA X.nox X0 (e::es) ka)
  (hdb:(x == ("__debug__" : Str))=false:=by decide) (he:starEach (e::es) X.env=(false,eval e X.env)::starEach es X.env:=by rfl) (hpl:(backTo pos (starEach es X.env)).any (·.1)=false:=by rfl):MEx X (.Call (.Name x p) (e::es) [] pos) (sA (a9h n F) (qA ka)):=by
 intro aA s σ H Q E I ⟨U,τ,h,S,Rh,o⟩
 refine apm (aka G.ok hr hg G.m G.kp G.b ha hdb he hpl) aA s σ H Q E I ⟨U,τ,h,S,Rh,?_⟩;have o2:=dg o (P:=λvs H1=>spX X.K X.mg n F vs H1 (λv H1=>∃L,a99 H1 L/\∀H2,FrzOf L H1 H2->Q v H2) E) λds h1 U1 H1 vs g1 r1 hr1 o1=>akb r1 hr1 o1 λc H' _ _ z=>z;unfold qA at o2
 cases e1:ka τ h with
 |ok a h1=>rw[e1]at o2;exact o2
 |ex c h1=>rw[e1]at o2;exact o2.elim
 |no=>rw[e1]at o2;exact o2
theorem amv{pos:Pos}(hN:X.N.Nodup)(hi:X.N[i]? = some x)(hx:Loc X.env.scope x)(he:MEx X e f)(hs:swapsWith e (some (.Name x pos')) pos.line X.env=pure false:=by rfl)(hf:Hf X x:=by with_unfolding_all first|exact .inl rfl|exact .inr rfl):MSx X [.Assign [.Name x pos'] e pos] (j5 i f):=λaA s σ H D E I q =>
 apk hN hi hx he hs hf aA s σ H D E I (ag6 q)
noncomputable def apn(i:Nat)(cs:Str->Bool)(fb fs:SS):SS:=λτ h=>match fb τ h with
 | .ex c h1=>if cs c=true then (match fs (τ.set i (some (.exc c))) h1 with
   |.nx τ' h'=>.nx (τ'.set i none) h'|.rt d h'=>.rt d h'|.bk τ' h'=>.bk (τ'.set i none) h'|.ct τ' h'=>.ct (τ'.set i none) h'|_=>.no) else .no
 |r=>r
theorem SRep.off(S:SRep K U H σ τ)(i:Nat):SRep K U H (σ.set i none) (τ.set i none):=by
 refine⟨by simp[S.len],λj d e=>?_⟩
 by_cases hj:i=j
 .subst hj;rw[List.getElem?_set]at e;simp at e
 .rw[cL hj]at e ⊢;exact S.val j d e
theorem amw{R:Addr}{x n:Str}{i:Nat}{np hp pos:Pos}{body:List Stmt}{b0:Stmt}{suite:List Stmt}{cs:Str->Bool}{fb fs:SS}(N:Hnd X R x n i)
  (hcs:∀c,cs c=true->∃C,X.mg c=some (.ref C)/\PySem.W.nsIn X.K mainGlobals c=some (some (.ref C))/\PySem.W.exmOne X.K (.ref C) (.ref R)=some true)
  (hb:MSx X body fb) (hs:∀a,MSs (X.inEx a) X0 (b0::suite) fs):MS X X0 (.Try body [.ExceptHandler (some (.Name x np)) (some n) (b0::suite) hp] [] [] pos) (apn i cs fb fs):=by
 refine PS.weak (aup (ts:=a5t X.K X0 fs) N hb hs) λD σ H ⟨U,τ,h,S,Rh,o⟩=>⟨U,τ,h,S,Rh,?_⟩;unfold apn at o
 cases e:fb τ h with
 |nx τ' h'=>rw[e]at o;exact o
 |rt d h'=>rw[e]at o;exact o
 |bk τ' h'=>rw[e]at o;exact o
 |ct τ' h'=>rw[e]at o;exact o
 |no=>rw[e]at o;exact o
 |ex c h1 =>
  rw[e]at o;dsimp only at o
  split at o
  .rename_i hc;obtain⟨C,m,ns,ex⟩:=hcs c hc
   intro U' H' g hr
   refine⟨C,m,C,rfl,ex,λa oe hoe ha=>?_⟩;have G:=g.trans (a1e (U:=U') ha (.frz oe (L2.exO a)));refine⟨U',τ.set i (some (.exc c)),h1,(S.mono G).set (.exc (o:=oe) (C:=C) qe hoe ns) i,hr.aside ha _,?_⟩;have o1:=sr o G
   cases e2:fs (τ.set i (some (.exc c))) h1 with
   |nx τ' h'=>rw[e2]at o1;exact λU2 H2 σ' g2 S2 hr2=>o1 U2 H2 _ g2 (S2.off i) hr2
   |bk τ' h'=>rw[e2]at o1;exact λU2 H2 σ' g2 S2 hr2=>o1 U2 H2 _ g2 (S2.off i) hr2
   |ct τ' h'=>rw[e2]at o1;exact λU2 H2 σ' g2 S2 hr2=>o1 U2 H2 _ g2 (S2.off i) hr2
   |rt d h'=>rw[e2]at o1;exact o1
   |ex c' h'=>rw[e2]at o1;exact o1.elim
   |no=>rw[e2]at o1;exact o1.elim
  .exact o.elim
end
section
variable{X:Cx}
def vc(v:V)(cv:Value):Prop:=(∃C,v=.ref C/\cv=.ref C)\/∃T,v=.ty T/\cv=.type T
theorem vc.eq(h:vc v cv)(r:RelV v u):u=cv:=by
 rcases h with⟨C,rfl,rfl⟩|⟨T,rfl,rfl⟩
 .exact r
 .cases r;rfl
theorem auq(I:L2.Inv X aA σ H s)(e:H a=some (.frz o (exO a)))(c:o.cls=.ref C):ExAt a C s.heap:=⟨o,(show ObjOk X.prog X.w H s.heap a (.frz o (exO a)) from I.hok a _ e).1,c⟩
theorem akd:CallR X (.builtin "isinstance") (λxs H Q=>∃a o C v cv b,xs=[.ref a,v]/\vc v cv/\H a=some (.frz o (exO a))/\o.cls=.ref C/\XKit X.K C/\PySem.W.kitOne X.K (.ref C) cv=some b/\Q (.bl b) H):=by
 intro aA s σ H xs us Q I r h
 obtain⟨a,o,C,v,cv,b,rfl,hv,ea,hc,Z,e,q⟩:=h;obtain⟨u,w',rfl,rx,rt⟩:=vals2 r;obtain rfl:u=Value.ref a:=rx;obtain rfl:=hv.eq rt;exact bR (ack Z) I.kIn (auq I ea hc) e (λz=>nomatch z) λtk=>⟨.bl b,H,I.tok tk,rfl,q⟩
theorem a9k:∀{cs:List Addr} {us:List Value},Vals (cs.map V.ref) us->us=cs.map Value.ref
 |[],_,r=>by cases r;rfl
 |c::cs,us,r=>by
  cases r with
  |cons r rs =>
   rw[bg,<-a9k rs]
   congr 1
theorem agk:CallR X (.builtin "isinstance") (λxs H Q=>∃a o C tp,∃cs:List Addr,∃b,xs=[.ref a,.ref tp]/\H tp=some (.tup (cs.map V.ref))/\H a=some (.frz o (exO a))/\o.cls=.ref C/\XKit X.K C/\PySem.W.kitAny X.K (.ref C) (cs.map Value.ref)=some b/\Q (.bl b) H):=by
 intro aA s σ H xs us Q I r h
 obtain⟨a,o,C,tp,cs,b,rfl,et,ea,hc,Z,e,q⟩:=h;obtain⟨u,w',rfl,rx,rt⟩:=vals2 r;obtain rfl:u=Value.ref a:=rx;obtain rfl:w'=Value.ref tp:=rt;obtain⟨_,its,vr,o',h1,⟨h2,_⟩,h3⟩:=(show ObjOk X.prog X.w H s.heap tp (.tup (cs.map V.ref)) from I.hok tp _ et)
 obtain rfl:=a9k vr
 obtain⟨n,h3⟩:=h3;have htp:s.heap.get? tp=some ⟨.type "tuple",o'.dict,.seq (cs.map Value.ref).toArray n,o'.slots⟩:=by
  rw[h1];obtain⟨c,dd,dt,sl⟩:=o';simp only at h2 h3;rw[h2,h3]
 exact PySem.W.kia_tup (ack Z) I.kIn (auq I ea hc) htp e (λz=>nomatch z) λtk=>⟨.bl b,H,I.tok tk,rfl,q⟩
noncomputable def aic(i:Nat)(f:Str->Option Bool):SE:=λτ h=>match τ[i]? with
 |some (some (.exc c))=>(match f c with|some b=>.ok (.bl b) h|none=>.no)
 |_=>.no
variable{E:XD}
theorem amx(S:SRep K U H σ τ)(o:out K E (ur K) U H (aic i f τ h) Q) :
  ∃a ob C c b,σ[i]? = some (some (.ref a))/\H a=some (.frz ob (exO a))/\ob.cls=.ref C/\PySem.W.nsIn K mainGlobals c=some (some (.ref C))/\f c=some b/\out K E (ur K) U H (.ok (.bl b) h) Q:=by
 unfold aic at o
 split at o
 .rename_i c e;obtain⟨v,e1,r⟩:=S.val i _ e
  cases r with
  |exc q hc hn =>
   split at o
   .rename_i b hb;exact⟨_,_,_,c,b,e1,q,hc,hn,hb,o⟩
   .exact o.elim
 .exact o.elim
theorem a73(hg:Gl X "isinstance")(hm:X.mg "isinstance" = none)(hb:bootBuiltins "isinstance" = some (.builtin "isinstance"))(hN:X.N[i]? = some n)(hv:Vis X.env.scope n)(hc:PE X (.Name x px) (tC v))(hvc:vc v cv)
  (hf:∀c b C,f c=some b->PySem.W.nsIn X.K mainGlobals c=some (some (.ref C))->XKit X.K C/\PySem.W.kitOne X.K (.ref C) cv=some b)
  (hd:(n == ("__debug__" : Str))=false:=by decide) (hcd:(n == ("__classdict__" : Str))=false:=by decide):ME X E (.Call (.Name "isinstance" p0) [.Name n pn,.Name x px] [] pos) (aic i f):=by
 refine PE.weak (a3i akd hg hm hb (uo (aei hN hv hd hcd) (uo hc a4s))) ?_
 rintro σ H Q ⟨U,τ,h,S,Rh,o⟩
 obtain⟨a,ob,C,c,b,e1,q,oc,ns,fb,o1⟩:=amx S o;obtain⟨Z,ki⟩:=hf c b C fb ns;exact⟨_,e1,a,ob,C,v,cv,b,rfl,hvc,q,oc,Z,ki,o1 U H _ (.refl _ _) (.bl b) Rh⟩
theorem agl{cs:List Addr}(hg:Gl X "isinstance")(hm:X.mg "isinstance" = none)(hb:bootBuiltins "isinstance" = some (.builtin "isinstance"))(hN:X.N[i]? = some n)(hv:Vis X.env.scope n)(hc:PA X es t)(ht:∀σ H (Q:List V->Hp->Prop),Q (cs.map V.ref) H->t σ H Q)(hl:cs.length<=sizeLine)
  (hf:∀c b C,f c=some b->PySem.W.nsIn X.K mainGlobals c=some (some (.ref C))->XKit X.K C/\PySem.W.kitAny X.K (.ref C) (cs.map Value.ref)=some b)
  (hd:(n == ("__debug__" : Str))=false:=by decide) (hcd:(n == ("__classdict__" : Str))=false:=by decide):ME X E (.Call (.Name "isinstance" p0) [.Name n pn,.Tuple es k px] [] pos) (aic i f):=by
 refine PE.weak (a3i agk hg hm hb (uo (aei hN hv hd hcd) (uo (alx hc) a4s))) ?_
 rintro σ H Q ⟨U,τ,h,S,Rh,o⟩
 obtain⟨a,ob,C,c,b,e1,q,oc,ns,fb,o1⟩:=amx S o;obtain⟨Z,ki⟩:=hf c b C fb ns;refine⟨_,e1,ht _ _ _ ⟨by rw[aJ];exact hl,λp hp=>?_⟩⟩
 have G:=a1e (U:=U) hp (.tup (cs.map V.ref));exact⟨a,ob,C,p,cs,b,rfl,qe,G.frz _ _ _ q,oc,Z,ki,o1 U _ _ G (.bl b) (Rh.aside hp _)⟩
end
end MI
namespace AT
open L2
theorem ake{α:Type}(x0:α)(xs:List α):atI (x0::xs) 0=some x0:=vp (j:=0) rfl
theorem akf{α:Type}(x0 x1:α)(xs:List α):atI (x0::x1::xs) 1=some x1:=vp (j:=1) rfl
theorem akg{α:Type}(x0 x1 x2:α)(xs:List α):atI (x0::x1::x2::xs) 2=some x2:=vp (j:=2) rfl
theorem akh{α:Type}(x0 x1 x2 x3:α)(xs:List α):atI (x0::x1::x2::x3::xs) 3=some x3:=vp (j:=3) rfl
theorem aki{α:Type}(x0 x1 x2 x3 x4:α)(xs:List α):atI (x0::x1::x2::x3::x4::xs) 4=some x4:=vp (j:=4) rfl
theorem akj{α:Type}(x0 x1 x2 x3 x4 x5:α)(xs:List α):atI (x0::x1::x2::x3::x4::x5::xs) 5=some x5:=vp (j:=5) rfl
theorem akk{α:Type}(x0 x1 x2 x3 x4 x5 x6:α)(xs:List α):atI (x0::x1::x2::x3::x4::x5::x6::xs) 6=some x6:=vp (j:=6) rfl
theorem akl{α:Type}(x0 x1 x2 x3 x4 x5 x6 x7:α)(xs:List α):atI (x0::x1::x2::x3::x4::x5::x6::x7::xs) 7=some x7:=vp (j:=7) rfl
theorem x10:ixN 1 0=some 0:=rfl
theorem x20:ixN 2 0=some 0:=rfl
theorem x21:ixN 2 1=some 1:=rfl
theorem x30:ixN 3 0=some 0:=rfl
theorem x31:ixN 3 1=some 1:=rfl
theorem x32:ixN 3 2=some 2:=rfl
theorem x40:ixN 4 0=some 0:=rfl
theorem x41:ixN 4 1=some 1:=rfl
theorem x42:ixN 4 2=some 2:=rfl
theorem x43:ixN 4 3=some 3:=rfl
theorem x50:ixN 5 0=some 0:=rfl
theorem x51:ixN 5 1=some 1:=rfl
theorem x52:ixN 5 2=some 2:=rfl
theorem x53:ixN 5 3=some 3:=rfl
theorem x54:ixN 5 4=some 4:=rfl
theorem x60:ixN 6 0=some 0:=rfl
theorem x61:ixN 6 1=some 1:=rfl
theorem x62:ixN 6 2=some 2:=rfl
theorem x63:ixN 6 3=some 3:=rfl
theorem x64:ixN 6 4=some 4:=rfl
theorem x65:ixN 6 5=some 5:=rfl
theorem x70:ixN 7 0=some 0:=rfl
theorem x71:ixN 7 1=some 1:=rfl
theorem x72:ixN 7 2=some 2:=rfl
theorem x73:ixN 7 3=some 3:=rfl
theorem x74:ixN 7 4=some 4:=rfl
theorem x75:ixN 7 5=some 5:=rfl
theorem x76:ixN 7 6=some 6:=rfl
def azp(x:Int):Int:=if x<0 then -x else x
theorem agm(x:Int)(h:MI.Hd):MI.awv [.int x] h=.ok (.int (azp x)) h:=rfl
theorem p18(h:MI.Hd):MI.a6z (.int 10) (.int 18) h=.ok (.int 1000000000000000000) h:=by rw[MI.a6z,av (by decide)];rfl
theorem aur{i:Int}(c:0<=j/\j<=1000000/\i.natAbs<2^64):MI.a6z (.int i) (.int j) h=.ok (.int (i^j.toNat)) h:=by rw[MI.a6z,av c]
end AT
namespace MI
open L2 SeqAt
noncomputable def ayf(neg:Bool)(K:Fg):R2:=λx y H Q=>∃(U:List Addr) (p q:Addr) (vs us:List V) (xs ys:List D),x=.ref p/\y=.ref q/\Rd H p (.lst vs)/\Rd H q (.lst us)/\Reps K U H vs xs/\Reps K U H us ys/\xs.all (pur 59)=true/\ys.all (pur 59)=true/\Q (.bl (if neg then !a97 xs ys else a97 xs ys)) H
theorem aco(I:Inv X aA σ H s)(hu:X.A.units+64<cLine)(h1:Rd H p (.lst vs))(h2:Rd H q (.lst us))(rs:Reps X.K U H vs xs)(qs:Reps X.K U H us ys)(p1:xs.all (pur 59)=true)(p2:ys.all (pur 59)=true) :
  RcAt X.A s (.ref p) (.ref q) (a97 xs ys)/\RcNeAt X.A s (.ref p) (.ref q) (!a97 xs ys):=by
 obtain⟨its,r1,pl1,z1⟩:=I.list (.inl h1);obtain⟨its2,r2,pl2,z2⟩:=I.list (.inl h2);have l1:its.toArray.size=xs.length:=by rw[aw,<-r1.length,rs.len]
 have l2:its2.toArray.size=ys.length:=by rw[aw,<-r2.length,qs.len]
 by_cases hl:xs.length=ys.length
 .have step:∀j (h1:j<its.toArray.size) (h2:j<its2.toArray.size),EqAt X.A.in1 s its.toArray[j] its2.toArray[j] (pairE xs ys j):=λj h1 h2=>by
   have j1:j<xs.length:=by omega
   have j2:j<ys.length:=by omega
   obtain⟨v1,e1,q1⟩:=rs.get (a8 j1);obtain⟨v2,e2,q2⟩:=qs.get (a8 j2);obtain⟨u1,e3,q3⟩:=r1.get e1;obtain⟨u2,e4,q4⟩:=r2.get e2;have f1:its.toArray[j]=u1:=by simpa using (ag.mp e3).2
   have f2:its2.toArray[j]=u2:=by simpa using (ag.mp e4).2
   have pe:pairE xs ys j=eqD xs[j] ys[j]:=by simp[pairE,a8 j1,a8 j2]
   rw[f1,f2,pe];rw[aM]at p1 p2;exact amm I.hok 59 X.A.in1 q1 q2 q3 q4 (p1 _ (b9 j1)) (p2 _ (b9 j2)) (by rw[eX];omega)
  have c1:=RcAt.lists (A:=X.A) (s:=s) (e:=pairE xs ys) pl1.isList pl2.isList (by omega) (by omega) step
  have c2:=RcNeAt.lists (A:=X.A) (s:=s) (e:=pairE xs ys) pl1.isList pl2.isList (by omega) (by omega) step
  have ea:=a3p xs ys;rw[hl,Nat.min_self,cV,cF,<-hl]at ea;rw[l1,ea]at c1 c2;exact⟨c1,c2⟩
 .have ne:(its.toArray.size != its2.toArray.size)=true:=by rw[l1,l2];simpa using hl
  have ea:=a3p xs ys;rw[bQ.mpr hl,cP]at ea;rw[<-ea];exact⟨RcAt.lists_lengths pl1.isList pl2.isList ne (by omega),RcNeAt.lists_lengths pl1.isList pl2.isList ne (by omega)⟩
theorem amy{X:Cx}(hu:X.A.units+64<cLine):OpR X (compareOp .Eq) (ayf false X.K):=by
 intro aA s σ H x y v u Q I rx ry h
 obtain⟨U,p,q,vs,us,xs,ys,rfl,rfl,h1,h2,r1,r2,p1,p2,hq⟩:=h
 cases rx;cases ry
 exact(aco I hu h1 h2 r1 r2 p1 p2).1 X.prog X.w X.xe _ ⟨.bl _,H,I,rfl,hq⟩
theorem aus{X:Cx}(hu:X.A.units+64<cLine):OpR X (compareOp .NotEq) (ayf true X.K):=by
 intro aA s σ H x y v u Q I rx ry h
 obtain⟨U,p,q,vs,us,xs,ys,rfl,rfl,h1,h2,r1,r2,p1,p2,hq⟩:=h
 cases rx;cases ry
 exact(aco I hu h1 h2 r1 r2 p1 p2).2 X.prog X.w X.xe _ ⟨.bl _,H,I,rfl,hq⟩
noncomputable def aa5(neg:Bool)(x y:D)(h:Hd):R D:=match zg x h,zg y h with
 |some xs,some ys=>if xs.all (pur 59)=true/\ys.all (pur 59)=true then .ok (.bl (if neg then !a97 xs ys else a97 xs ys)) h else .no
 |_,_=>.no
theorem aay(neg:Bool):a01 K (aa5 neg) (ayf neg K):=by
 intro E U H h x y dx dy Q rx ry hr o
 unfold aa5 at o
 split at o
 .rename_i xs ys e1 e2
  split at o
  .rename_i hc;obtain⟨a,vs,rfl,h1,r1⟩:=a2d rx hr e1;obtain⟨b,us,rfl,h2,r2⟩:=a2d ry hr e2;exact⟨U,a,b,vs,us,xs,ys,rfl,rfl,h1,h2,r1,r2,hc.1,hc.2,ans o (.bl _) hr⟩
  .exact o.elim
 .exact o.elim
end MI
namespace TPM
open PySem.W L2 HT MI
theorem adz(t:Addr)(aC:Array Value)(n:Nat)(dd:Option Addr)(sl:Array (Option Value))(u:Tok) :
  Meets (Builtin.«tuple.__mul__» ⟨[.ref t,.int 1 u],[]⟩) (λ_ R s=>s.heap.get? t=some {cls:=.type "tuple",dict:=dd,data:=.seq aC n,slots:=sl}/\R (.ok (.ret (.ref t))) s) :=
 .of_wp λprog w A R s h=>by
  obtain⟨hp,g,d,tk,os⟩:=s;obtain⟨hl,h⟩:=h
  wp_walk
  exact⟨_,rfl,h⟩
noncomputable def akm(K:Fg):R2:=λx y H Q=>∃a xs,x=.ref a/\y=.int 1/\SqT K H a xs/\Q (.ref a) H
theorem agn:OpR X (binaryOp .Mult) (akm X.K):=by
 intro aA s σ H x y v u Q I rx ry h
 obtain⟨a,xs,rfl,rfl,ha,q⟩:=h;cases rx
 obtain⟨t,rfl⟩:=ry;obtain⟨its,r1,p1,_⟩:=I.tuple ha;obtain⟨⟨cls,dd,data,sl⟩,ho,hc,n,hd⟩:=id p1;simp only at hc hd;subst hc hd;exact cM (T := "tuple") (U := "int") (by decide) ⟨_,ho,rfl⟩ (λs'=>dJ s' 1 t) yf eF cI a5x eh.lookup
  (cN cI (dJ s 1 t) ei (e7 _ _) (a1i 1 t a its.toArray n dd sl)
   ⟨ho,rfl,⟨_,ho,rfl⟩,cN eA ⟨_,ho,rfl⟩ fN (fE _ _) (adz a its.toArray n dd sl t) ⟨ho,.ref a,H,I,rfl,q⟩⟩)
end TPM
namespace MI
open L2 TPM
def ae0(x y:D)(h:Hd):R D:=match x,y with
 |.tup xs,.int k=>if k=1 then .ok (.tup xs) h else ajv (.tup xs) (.int k) h
 |x,y=>ajv x y h
theorem a0t:a01 K ae0 (λx y H Q=>((rI CMul (λi j=>.int (i*j)) x y H Q\/aqv x y H Q)\/ag9 K x y H Q)\/akm K x y H Q):=by
 intro E U H h x y dx dy Q rx ry hr o
 cases rx with
 |@tup a vs xs ha rs =>
  cases ry with
  |int k =>
   simp only[ae0]at o
   split at o
   .rename_i hc;subst hc;exact .inr ⟨a,vs,rfl,rfl,SqT.of ha,ans o (.tup ha rs) hr⟩
   .exact .inl (a7v _ _ _ _ _ _ _ _ _ (.tup ha rs) (.int k) hr o)
  |_=>exact o.elim
 |int i=>exact .inl (a7v _ _ _ _ _ _ _ _ _ (.int i) ry hr o)
 |ref e=>exact .inl (a7v _ _ _ _ _ _ _ _ _ (.ref e) ry hr o)
 |_=>exact o.elim
end MI
namespace SETH
noncomputable def it:Nat->Nat->Nat
 |0,x=>x
 |n+1,x=>it n (5*x+1)
theorem ago(m:Nat):∀(n x:Nat),it (n+m) x=it m (it n x)
 |0,x=>by rw[eV];rfl
 |n+1,x=>by rw[show n+1+m=(n+m)+1 by omega];exact ago m n _
theorem amz:∀k:Nat,∃c,∀x,it (2^k) x=(4*(2^k*(2*c+1))+1)*x+2^k*(2*c+1)
 |0=>⟨0,λx=>by show 5*x+1=_;omega⟩
 |k+1=>by
  obtain⟨c,h⟩:=amz k;refine⟨2*c*(2^k*(2*c+1))+c+2^k*(2*c+1),λx=>?_⟩;have e:2^(k+1)=2^k+2^k:=by rw[g7];omega
  rw[e,ago,h,h]
  generalize 2^k=P
  grind
theorem full:∀(k x y:Nat),∃n,n<2^k/\it n x%2^k=y%2^k
 |0,x,y=>⟨0,by decide,by rw[Nat.pow_zero,Nat.mod_one,Nat.mod_one]⟩
 |k+1,x,y=>by
  obtain⟨n,hn,e⟩:=full k x y;obtain⟨c,h⟩:=amz k;have hp:0<2^k:=Nat.pow_pos (by decide)
  rw[g7]
  by_cases q:it n x / 2^k%2=y / 2^k%2
  .exact⟨n,by omega,by rw[gv,gv,e,q]⟩
  .refine⟨n+2^k,by omega,?_⟩
   rw[ago,h]
   generalize 2^k=P at *
   generalize it n x=z at *
   have:(4*(P*(2*c+1))+1)*z+P*(2*c+1)=(z+P)+P*2*(2*(2*c+1)*z+c):=by grind
   rw[this,Nat.add_mul_mod_self_left,gv,gv,Nat.add_mod_right,e,Nat.add_div_right _ hp]
   congr 2
   omega
noncomputable def im(M:Nat):Nat->Nat->Nat
 |0,x=>x
 |n+1,x=>im M n ((x*5+1)%M)
theorem aut(M:Nat):∀(n x:Nat),im M n x%M=it n x%M
 |0,x=>rfl
 |n+1,x=>by
  show im M n _%M=it n _%M;rw[aut M n];have:∀n a b,a%M=b%M->it n a%M=it n b%M:=by
   intro n
   induction n with
   |zero=>exact λa b h=>h
   |succ n ih=>exact λa b h=>ih _ _ (by rw[Nat.add_mod,Nat.mul_mod,h,<-Nat.mul_mod,<-Nat.add_mod])
  exact this n _ _ (by rw[Nat.mod_mod,eC])
theorem auu(hM:0<M):∀(n x:Nat),x<M->im M n x<M
 |0,x,h=>h
 |n+1,x,h=>auu hM n _ (Nat.mod_lt _ hM)
open PySem.SetTable
noncomputable def ls(mask:Nat):Nat->Nat×Nat->Nat×Nat
 |0,x=>x
 |n+1,x=>ls mask n (leap mask x.1 x.2)
theorem auv(mask m:Nat):∀(n:Nat) (x:Nat×Nat),ls mask (n+m) x=ls mask m (ls mask n x)
 |0,x=>by rw[eV];rfl
 |n+1,x=>by rw[show n+1+m=(n+m)+1 by omega];exact auv mask m n _
theorem ae1(mask:Nat):∀(n:Nat) (x:Nat×Nat),(ls mask n x).2=x.2 / 32^n
 |0,x=>by rw[Nat.pow_zero,Nat.div_one];rfl
 |n+1,x=>by
  show(ls mask n _).2=_;rw[ae1 mask n,g7,eC,<-Nat.div_div_eq_div_mul];rfl
theorem ayh(mask:Nat):∀(n:Nat) (x:Nat×Nat),x.1<=mask->(ls mask n x).1<=mask
 |0,x,h=>h
 |n+1,x,h=>ayh mask n _ (Nat.le_of_lt_succ (Nat.mod_lt _ (Nat.succ_pos _)))
theorem ayi(mask:Nat):∀(n i:Nat),ls mask n (i,0)=(im (mask+1) n i,0)
 |0,i=>rfl
 |n+1,i=>by
  show ls mask n (leap mask i 0)=(im (mask+1) n _,0);rw[<-ayi mask n];rfl
end SETH
namespace SETB
open PyProof.Rows
section
variable{prog:Program}{w:World}{E:Value->Shared->Prop}{A:Around}{s:Shared}
noncomputable def apo(b:Bool):Obj:={cls:=.type "set",dict:=none,data:=.set #[] 0 (.fresh 0 0 b)}
noncomputable def byT(w:World):Bool:=w.params.followText "set-order"
theorem apq(q:Q (.ref s.heap.objs.size) {s with heap:=s.heap.push (apo (!byT w))}):wpAny (model prog w) A (newSet (.type "set")) Q E s:=by
 unfold newSet setsByText;refine ax (ax (wpAny_askSetting (aS ?_)));exact dB q
end
end SETB
namespace L2
open PyProof.Rows SETB
theorem agp:eval (.SetComp aD gens aB pos) env =
  comprehension (.SetComp aD gens aB pos) aB env (firstIterPos gens pos) (newSet (.type "set")) (firstAsync gens) (firstIter gens env):=rfl
section
variable{X:Cx}
theorem ae2(I:Inv X aA σ H s)
  (hf:∀b∈fp,FpOk X aA H b) (hC:s.heap.objs.size<=C) (hacc:s.heap.objs.size<=acc)
  (J:Inv (cxC X N aB cl C fp s H) [] σ' H' s') (hn:H' acc=none) (hob:ObjOk X.prog X.w (upd H' acc ho) h' acc ho) (sb:Heap.SameBut C s'.heap h') :
  Inv X aA σ (upd H' acc ho) {s' with heap:=h' }:=a6v (Y:=cxC X N aB cl C fp s H) I hf hC hacc ⟨rfl,rfl,rfl,rfl,rfl,rfl,rfl⟩ J hn hob sb
theorem FpOk.on(f:FpOk Y aA H b)(hp:Y.pn=[])(hn:H' b=none)(ne:b∉L):FpOk Y (a0f L h) H' b:=by
 obtain⟨_,f1,f2,f3,f4,_⟩:=f;refine⟨hn,f1,f2,f3,f4,λp hq z=>ne ?_⟩;rw[hp]at hq;have:=(a8c (show p∈a0f L h from hq)).1
 rw[<-z];exact this
end
end L2
namespace MI
open L2
def Bz(j:Int):Prop:=0<=j/\j<2^62
instance (j:Int):Decidable (Bz j):=by unfold Bz;exact inferInstance
end MI
namespace TPM
open PySem.W L2 HT MI
theorem ae3(t:Addr)(aC:Array Value)(n:Nat)(dd:Option Addr)(sl:Array (Option Value))(u:Tok)(h0:aC.isEmpty=false) :
  Meets (Builtin.«tuple.__mul__» ⟨[.ref t,.int 0 u],[]⟩) (λ_ R s=>s.heap.get? t=some {cls:=.type "tuple",dict:=dd,data:=.seq aC n,slots:=sl}/\R (.ok (.ret (.ref s.heap.objs.size))) {s with heap:=s.heap.push {cls:=.type "tuple",data:=.seq #[]} }) :=
 .of_wp λprog w A R s h=>by
  obtain⟨hp,g,d,tk,os⟩:=s;obtain⟨hl,h⟩:=h;have c2:¬ (aC.isEmpty || (0:Int) == 1)=true:=by rw[h0];decide
  wp_walk
  exact⟨_,rfl,h⟩
noncomputable def auw(K:Fg):R2:=λx y H Q=>∃a xs,x=.ref a/\y=.int 0/\SqT K H a xs/\xs≠[]/\∀p,H p=none->Q (.ref p) (upd H p (.tup []))
theorem apr:OpR X (binaryOp .Mult) (auw X.K):=by
 intro aA s σ H x y v u Q I rx ry h
 obtain⟨a,xs,rfl,rfl,ha,hx,q⟩:=h;cases rx
 obtain⟨t,rfl⟩:=ry;obtain⟨its,r1,p1,_⟩:=I.tuple ha;obtain⟨⟨cls,dd,data,sl⟩,ho,hc,n,hd⟩:=id p1;simp only at hc hd;subst hc hd;have he:its.toArray.isEmpty=false:=by
  cases its with
  |nil=>exact(hx (r1.nil_iff.mp rfl)).elim
  |cons _ _=>rfl
 refine cM (T := "tuple") (U := "int") (by decide) ⟨_,ho,rfl⟩ (λs'=>dJ s' 0 t) yf eF cI a5x eh.lookup
  (cN cI (dJ s 0 t) ei (e7 _ _) (a1i 0 t a its.toArray n dd sl)
   ⟨ho,rfl,⟨_,ho,rfl⟩,cN eA ⟨_,ho,rfl⟩ fN (fE _ _) (ae3 a its.toArray n dd sl t he) ⟨ho,?_⟩⟩)
 refine⟨.ref s.heap.objs.size,_,I.laid (t':=s.toks) (o:=.tup []) (λb ob q=>aI _ q) (a9 _) ?_,rfl,q _ (I.hok.fresh (a9 _))⟩;exact⟨by decide,[],.nil,L2.TupD.new _ _⟩
end TPM
namespace MI
open L2 TPM
open Classical in
def aaz(x y:D)(h:Hd):R D:=match x,y with
 |.tup xs,.int k=>if k=0/\xs≠[] then .ok (.tup []) h else ae0 (.tup xs) (.int k) h
 |x,y=>ae0 x y h
theorem akn:a01 K aaz (λx y H Q=>(((rI CMul (λi j=>.int (i*j)) x y H Q\/aqv x y H Q)\/ag9 K x y H Q)\/akm K x y H Q)\/auw K x y H Q):=by
 intro E U H h x y dx dy Q rx ry hr o
 cases rx with
 |@tup a vs xs ha rs =>
  cases ry with
  |int k =>
   simp only[aaz]at o
   split at o
   .rename_i hc;obtain⟨rfl,hx⟩:=hc;refine .inr ⟨a,vs,rfl,rfl,SqT.of ha,λz=>hx ?_,a0r .nil hr o⟩;subst z;cases rs;rfl
   .exact .inl (a0t _ _ _ _ _ _ _ _ _ (.tup ha rs) (.int k) hr o)
  |_=>exact o.elim
 |int i=>exact .inl (a0t _ _ _ _ _ _ _ _ _ (.int i) ry hr o)
 |ref e=>exact .inl (a0t _ _ _ _ _ _ _ _ _ (.ref e) ry hr o)
 |_=>exact o.elim
theorem aps(ha:ME X E a fa)(hb:ME X E b fb):ME X E (.BinOp a .Mult b pos) (s2 aaz fa fb):=a90 ((((aen.or am2).or aga).or agn).or apr) akn ha hb
end MI
namespace DRW
open L2 MI
def yr(ak:SF):SS :=
 (gh (j5 6 (sA (gm false 2 ak) (aj (sV 0) (aj (sA kj (aj (sV 2) aq)) aq))))
 (gh (abz 3 a1h (s2 gIx (sV 2) (sV 6)))
 (j5 2 (s2 dm (vm (sV 2) oN (oS (sV 6))) (vm (sV 2) (oS (s2 dm (sV 6) (sI 1))) oN)))))
def a0l(ak:SF):SS :=
 (gh (j5 2 (sV 1))
 (gh (j5 3 (sC (.str "")))
 (gh (j5 4 (sI 1))
 (gh (sIf (sT (s2 hEq (sA (gm false 2 ak) (aj (sV 0) (aj (sI 2) aq))) (sI 0)))
 (j5 4 (s2 dm (sI 1) (sA (gm false 2 ak) (aj (sV 0) (aj (sA kj (aj (sV 1) aq)) aq)))))
 sNx)
 (gh (adq (sRg a02 (aj (sV 4) aq)) (kN 5) (yr ak))
 (jf (sV 3)))))))
def qi(bc:SF):SE :=
 (sA (gm false 1 bc) (aj (sV 0) aq))
def uh(bc:SF):SS :=
 (gh (sIf (sT (s2 hEq (s2 gIx (sV 0) (sI 0)) (sC (.str "one"))))
 (jf (sI 1))
 sNx)
 (gh (sIf (sT (s2 (gIn false) (s2 gIx (sV 0) (sI 0)) (sA dj (aj (sC (.str "row")) (aj (sC (.str "either")) aq)))))
 (jf (sA a71 (aj (sZ (mj (sIt (s2 gIx (sV 0) (sI 1))) t1 (qi bc) [])) aq)))
 sNx)
 (gh (sIf (sT (s2 hEq (s2 gIx (sV 0) (sI 0)) (sC (.str "many"))))
 (jf (sA (gm false 1 bc) (aj (s2 gIx (sV 0) (sI 1)) aq)))
 sNx)
 (jf (s2 yq (s2 gIx (sV 0) (sI 3)) (sA (gm false 1 bc) (aj (s2 gIx (sV 0) (sI 1)) aq)))))))
def u6(ak:SF)(jy:SF)(gf:SF)(bc:SF):SS :=
 (sIf (sT (s2 gGt (s2 gIx (sV 4) (sI 0)) (sI 0)))
 (gh (j5 10 (sA (gm false 5 gf) (aj (sV 0) (aj (sV 1) (aj (s2 a3h (sV 2) (sI 1)) (aj (sV 3) (aj (sV 4) aq)))))))
 (gh (abz 3 a3h (sA (gm false 1 bc) (aj (sV 10) aq)))
 (a4g (sML adt (sV 8) (aj (sV 10) aq)))))
 sNx)
def wj(ak:SF)(jy:SF)(gf:SF)(bc:SF):SS :=
 (gh (a1j a3h (sV 4) (sI 0) (sI 1))
 (gh (j5 5 (sA (gm false 2 ak) (aj (sV 0) (aj (sI 9) aq))))
 (gh (sIf (sOr (sT (s2 hEq (sV 2) (sI 1))) (sOr (sT (s2 gLt (s2 gIx (sV 4) (sI 0)) (sI 1))) (sT (s2 hEq (sV 5) (sI 0)))))
 (gh (sIf (sOr (sT (s2 hEq (sV 3) (sI 0))) (sT (s2 hEq (sA (gm false 2 ak) (aj (sV 0) (aj (sI 8) aq))) (sI 0))))
 (jf (sA dj (aj (sC (.str "row")) (aj (sA dj aq) aq))))
 sNx)
 (jf (sA dj (aj (sC (.str "one")) (aj (sA (gm false 2 jy) (aj (sV 0) (aj (sV 1) aq))) aq)))))
 sNx)
 (gh (sIf (sT (s2 gLt (sV 5) (sI 3)))
 (jf (sA dj (aj (sC (.str "many")) (aj (sA (gm false 5 gf) (aj (sV 0) (aj (sV 1) (aj (s2 a3h (sV 2) (sI 1)) (aj (sV 3) (aj (sV 4) aq)))))) aq))))
 sNx)
 (gh (sIf (sT (s2 gLt (sV 5) (sI 5)))
 (gh (j5 6 (sA (gm false 2 ak) (aj (sV 0) (aj (sI 5) aq))))
 (gh (j5 7 (sA (gm false 2 ak) (aj (sV 0) (aj (s2 dm (sV 6) (sI 1)) aq))))
 (jf (sA dj (aj (sC (.str "times")) (aj (sA (gm false 5 gf) (aj (sV 0) (aj (sV 1) (aj (s2 a3h (sV 2) (sI 1)) (aj (s2 a6m (sV 3) (sA a95 (aj (sI 1) (aj (sV 6) aq)))) (aj (sV 4) aq)))))) (aj (sV 7) (aj (sV 6) aq))))))))
 sNx)
 (gh (j5 8 (sA ye aq))
 (gh (adq (sRg a02 (aj (s2 gIx (sA dj (aj (sI 1) (aj (sI 2) (aj (sI 2) (aj (sI 3) (aj (sI 3) (aj (sI 4) (aj (sI 5) (aj (sI 6) aq))))))))) (sA (gm false 2 ak) (aj (sV 0) (aj (sI 8) aq)))) aq)) (kN 9) (u6 ak jy gf bc))
 (jf (sA dj (aj (s2 gIx (sA dj (aj (sC (.str "row")) (aj (sC (.str "either")) aq))) (s2 a6m (sV 5) (sI 7))) (aj (sA u5 (aj (sV 8) aq)) aq)))))))))))
def a0u(ak:SF):SE :=
 (s2 gIx (sV 2) (sA (gm false 2 ak) (aj (sV 1) (aj (sI 26) aq))))
def yt(ak:SF):ST :=
 (sT (s2 (gIn false) (sV 3) (sV 1)))
def a0v(ak:SF):SS :=
 (gh (abz 6 a1h (sI 1))
 (gh (j5 7 (s2 gIx (sV 2) (s2 a3z (s2 dm (sV 5) (sV 6)) (sI 26))))
 (j5 3 (s2 dm (s2 dm (vm (sV 3) oN (oS (sV 4))) (sV 7)) (vm (sV 3) (oS (s2 dm (sV 4) (sI 1))) oN)))))
def a0m(ak:SF):SS :=
 (gh (j5 2 (sC (.str "abcdefghijklmnopqrstuvwxyz")))
 (gh (j5 3 (sMS adu (sC (.str "")) (aj (sZ (mj (sRg a02 (aj (s2 dm (sI 1) (sA (gm false 2 ak) (aj (sV 0) (aj (sI 8) aq)))) aq)) t1 (a0u ak) [0,2])) aq)))
 (gh (sIf (yp (sT (s2 (aa5 true) (sV 1) (sZ (sA ye aq)))) (sT (s2 hEq (sA (gm false 2 ak) (aj (sV 0) (aj (sI 2) aq))) (sI 0))))
 (j5 3 (s2 gIx (sV 1) (s1 ai8 (sI 1))))
 sNx)
 (gh (j5 4 (sA (gm false 2 ak) (aj (sV 0) (aj (sA kj (aj (sV 3) aq)) aq))))
 (gh (j5 5 (sMS ac6 (sV 2) (aj (s2 gIx (sV 3) (sV 4)) aq)))
 (gh (j5 6 (sI 0))
 (gh (sWh (yt ak) (a0v ak) 100000)
 (jf (sV 3)))))))))
def uz(ak:SF)(lw:SF)(gf:SF)(bc:SF):SS :=
 (gh (j5 6 (s2 dm (sI 2) (sA (gm false 2 ak) (aj (sV 0) (aj (sI 4) aq)))))
 (gh (j5 7 (sA (gm false 5 gf) (aj (sV 0) (aj (sV 1) (aj (sV 6) (aj (sV 2) (aj (sA ye (aj (sI 24) aq)) aq)))))))
 (gh (j5 8 (sA (gm false 2 lw) (aj (sV 0) (aj (sV 3) aq))))
 (gh (abz 2 a3h (sA (gm false 1 bc) (aj (sV 7) aq)))
 (gh (a4g (sML adt (sV 3) (aj (sV 8) aq)))
 (a4g (sML adt (sV 4) (aj (sA dj (aj (sV 8) (aj (sV 7) aq))) aq))))))))
def a0n(ak:SF)(lw:SF)(gf:SF)(bc:SF):SS :=
 (gh (j5 3 (sA ye aq))
 (gh (j5 4 (sA ye aq))
 (gh (adq (sRg a02 (aj (s2 gIx (sA dj (aj (sI 0) (aj (sI 1) (aj (sI 1) (aj (sI 2) (aj (sI 2) (aj (sI 3) (aj (sI 4) (aj (sI 6) aq))))))))) (sA (gm false 2 ak) (aj (sV 0) (aj (sI 8) aq)))) aq)) (kN 5) (uz ak lw gf bc))
 (jf (sA dj (aj (sV 1) (aj (sA u5 (aj (sV 4) aq)) aq)))))))
end DRW
namespace HND
open L2 MI
def wg:SS :=
 (gh (j5 0 (sC (.str " !\"#$&'()*+,-./0123456789:;<=>?@ABCDEFGHIJKLMNOPQRSTUVWXYZ[\\]^_`")))
 (jf (s2 dm (sV 0) (sC (.str "abcdefghijklmnopqrstuvwxyz{|}~\n")))))
end HND
namespace K20
open L2 MI
def zj:SS :=
 (jf (qx (sA m5 (aj (sV 0) (aj (sC (.ty "int")) aq))) (a91 (sA m5 (aj (sV 0) (aj (sC (.ty "bool")) aq))))))
def ou(ue:SF):SS :=
 (jf (qx (sA (gm false 1 ue) (aj (sV 0) aq)) (sCh gLe gLe (sV 1) (sV 0) (sV 2))))
def a3t:SS :=
 (jf (qx (sA m5 (aj (sV 0) (aj (sC (.ty "tuple")) aq))) (sCh gLe gLe (sV 1) (sA kj (aj (sV 0) aq)) (sV 2))))
def a1m:SS :=
 (gh (sIf (sOr (a0g (a0b (sA m5 (aj (sV 0) (aj (sC (.ty "str")) aq))))) (sT (s2 hNe (sA kj (aj (sV 0) aq)) (sI 1))))
 aww
 sNx)
 (gh (sIf (sT (s2 hEq (sV 0) (sC (.str "\n"))))
 (jf (sC (.bl true)))
 sNx)
 (jf (qx (sCh gLe gLe (sC (.str " ")) (sV 0) (sC (.str "~"))) (s2 hNe (sA au1 (aj (sV 0) aq)) (sI 37))))))
def qz(uc:SF):SE :=
 (sA (gm false 1 uc) (aj (sV 0) aq))
def mq(uc:SF):SS :=
 (gh (sIf (sOr (a0g (a0b (sA m5 (aj (sV 0) (aj (sC (.ty "str")) aq))))) (a0g (sT (sCh gLe gLe (sI 1) (sA kj (aj (sV 0) aq)) (sI 6)))))
 (jf (sC (.bl false)))
 sNx)
 (jf (qx (s2 hEq (s1 a2u (sV 0)) (sA kj (aj (sV 0) aq))) (sA aia (aj (sZ (mj (sIt (sV 0)) t1 (qz uc) [])) aq)))))
end K20
namespace MI
open L2 PyProof.Rows
noncomputable def agq(r r' r'':R2)(ta tb tc td:TE):TE:=λσ H Q=>ta σ H λx H1=>tb σ H1 λy H2=>r x y H2 λz H3=>∃k,z=.bl k /\
 (if k=true then tc σ H3 λu H4=>r' y u H4 λz' H5=>∃k',z'=.bl k'/\(if k'=true then td σ H5 λv H6=>r'' u v H6 Q else Q (.bl false) H5) else Q (.bl false) H3)
section
variable{X:Cx}{E:XD}{a b c d:Expr}{op op' op'':CmpOp}{r r' r'':R2}{ta tb tc td:TE}{fa fb fc fd:SE}{g g' g'':D->D->Hd->R D}{pos:Pos}{K:Fg}{σ:L2.St}{H:Hp}
theorem agr(ho:OpR X (compareOp op) r)(ho':OpR X (compareOp op') r')(ho'':OpR X (compareOp op'') r'')(ha:PE X a ta)(hb:PE X b tb)(hc:PE X c tc)(hd:PE X d td)
  (hm:lastMarks [op,op',op''] [b,c,d]=false:=by with_unfolding_all rfl):PT X (.Compare a [op,op',op''] [b,c,d] pos) (aio (agq r r' r'' ta tb tc td)):=by
 intro aA s σ H Q I h
 refine isTrue_chain (L2.thn (ha aA s σ H _ I h) λv s1 ⟨x,H1,I1,r1,q1⟩=>test_link (L2.thn (hb aA s1 σ H1 _ I1 q1) λu s2 ⟨y,H2,I2,r2,q2⟩ =>
  L2.thn (ho aA s2 σ H2 x y v u _ I2 r1 r2 q2) λd s3 ⟨z,H3,I3,r3,k,e,q3⟩=>?_)) hm
 subst e;cases r3
 refine bS ?_
 cases k with
 |false =>
  obtain⟨k',e',q'⟩:=q3
  cases e'
  exact ite_ff ⟨H3,I3,q'⟩
 |true =>
  refine ite_tt (test_link (L2.thn (hc aA s3 σ H3 _ I3 q3) λw' s4 ⟨z',H4,I4,r4,q4⟩=>L2.thn (ho' aA s4 σ H4 y z' u w' _ I4 r2 r4 q4) λd' s5 ⟨z2,H5,I5,r5,k2,e2,q5⟩=>?_));subst e2;cases r5
  refine bS ?_
  cases k2 with
  |false =>
   obtain⟨k',e',q'⟩:=q5
   cases e'
   exact ite_ff ⟨H5,I5,q'⟩
  |true =>
   refine ite_tt (test_last (L2.thn (hd aA s5 σ H5 _ I5 q5) λw2 s6 ⟨z3,H6,I6,r6,q6⟩=>L2.thn (ho'' aA s6 σ H6 z' z3 w' w2 _ I6 r4 r6 q6) λd2 s7 ⟨z4,H7,I7,r7,k3,e3,q7⟩=>?_));subst e3;cases r7
   exact bS ⟨H7,I7,q7⟩
noncomputable def apt(g g' g'':D->D->Hd->R D)(fa fb fc fd:SE):SE:=λτ h=>(fa τ h).bind λx h1=>(fb τ h1).bind λy h2=>(g x y h2).bind λz h3=>match z with
 |.bl true=>(fc τ h3).bind λw h4=>(g' y w h4).bind λz' h5=>match z' with
  |.bl true=>(fd τ h5).bind λv h6=>g'' w v h6
  |.bl false=>.ok (.bl false) h5
  |_=>.no
 |.bl false=>.ok (.bl false) h3
 |_=>.no
theorem auy{Q:VK}(hs:a01 K g r)(hs':a01 K g' r')(hs'':a01 K g'' r'')(q:lift K E (ur K) (apt g g' g'' fa fb fc fd) σ H Q) :
  agq r r' r'' (lift K E (ur K) fa) (lift K E (ur K) fb) (lift K E (ur K) fc) (lift K E (ur K) fd) σ H Q:=by
 obtain⟨U,τ,h,S,Rh,o⟩:=q;refine⟨U,τ,h,S,Rh,dg o λd h1 U1 H1 v g1 r1 hr1 o1=>?_⟩;refine⟨U1,τ,h1,S.mono g1,hr1,dg o1 λd2 h2 U2 H2 u g2 r2 hr2 o2=>?_⟩;refine hs E U2 H2 h2 v u d d2 _ (r1.mono g2) r2 hr2 (dg o2 λd3 h3 U3 H3 z g3 r3 hr3 o3=>?_)
 cases r3 with
 |bl k =>
  refine⟨k,rfl,?_⟩
  cases k with
  |true =>
   rw[av rfl];refine⟨U3,τ,h3,((S.mono g1).mono g2).mono g3,hr3,dg o3 λd4 h4 U4 H4 w g4 r4 hr4 o4=>?_⟩;refine hs' E U4 H4 h4 u w d2 d4 _ ((r2.mono g3).mono g4) r4 hr4 (dg o4 λd5 h5 U5 H5 z' g5 r5 hr5 o5=>?_)
   cases r5 with
   |bl k' =>
    refine⟨k',rfl,?_⟩
    cases k' with
    |true =>
     rw[av rfl];refine⟨U5,τ,h5,((((S.mono g1).mono g2).mono g3).mono g4).mono g5,hr5,dg o5 λd6 h6 U6 H6 x g6 r6 hr6 o6=>?_⟩;exact hs'' E U6 H6 h6 w x d4 d6 Q ((r4.mono g5).mono g6) r6 hr6 o6
    |false =>
     rw[aO aU];exact o5 U5 H5 (.bl false) (.refl _ _) (.bl false) hr5
   |_=>exact o5.elim
  |false =>
   rw[aO aU];exact o3 U3 H3 (.bl false) (.refl _ _) (.bl false) hr3
 |_=>exact o3.elim
theorem ags(ho:OpR X (compareOp op) r)(ho':OpR X (compareOp op') r')(ho'':OpR X (compareOp op'') r'')(hs:a01 X.K g r)(hs':a01 X.K g' r')(hs'':a01 X.K g'' r'')(ha:ME X E a fa)(hb:ME X E b fb)(hc:ME X E c fc)(hd:ME X E d fd)
  (hm:lastMarks [op,op',op''] [b,c,d]=false:=by with_unfolding_all rfl):MT X E (.Compare a [op,op',op''] [b,c,d] pos) (sT (apt g g' g'' fa fb fc fd)) :=
 PT.weak (agr ho ho' ho'' ha hb hc hd hm) λσ H Q q=>aal (λ_ _ _=>auy hs hs' hs'') q
end
end MI
namespace L2
open PyProof.Rows SETB
noncomputable def stepT(ns:List Str)(k:Str):List Str:=if k∈ns then ns else ns++[k]
def SetTx(P:Program)(w:World)(a:Addr)(ns:List Str)(h:Heap):Prop:=h.SetOf (strKind P w) a (λk=>decide (k∈ns)) ns.length
noncomputable def ab0(P:Program)(w:World)(a:Addr)(ns:List Str):HO:=.ext λh=>SetTx P w a ns h
theorem SetTx.keep{P:Program}{w:World}{a:Addr}{ns:List Str}{h h':Heap}(x:SetTx P w a ns h)(k:∀o,h.get? a=some o->h'.get? a=some o):SetTx P w a ns h':=by
 obtain⟨o,es,ep,t,ho,r⟩:=x;exact⟨o,es,ep,t,k o ho,r⟩
theorem SetTx.add{P:Program}{w:World}{a:Addr}{ns:List Str}{k:Str}{h:Heap}(x:h.SetOf (strKind P w) a (λk'=>decide (k'∈ns) || decide (k'=k)) (if decide (k∈ns) then ns.length else ns.length+1)):SetTx P w a (stepT ns k) h:=by
 unfold SetTx stepT
 by_cases m:k∈ns
 .rw[av m];have e:(λk'=>decide (k'∈ns) || decide (k'=k))=λk'=>decide (k'∈ns):=by
   funext k'
   by_cases z:k'=k
   .subst z;simp[m]
   .simp[z]
  rw[e,av (ay m)]at x;exact x
 .rw[aO m];have e:(λk'=>decide (k'∈ns) || decide (k'=k))=λk'=>decide (k'∈ns++[k]):=by
   funext k'
   simp[bb]
  rw[e,aO (by simpa using m)]at x
  rw[ae,aE];exact x
theorem ako{P:Program}{w:World}{a:Addr}{ns:List Str}{H:Hp}{h:Heap}(x:SetTx P w a ns h):ObjOk P w H h a (ab0 P w a ns):=by
 refine⟨x,?_,λh1 h2 p k=>p.keep k⟩;obtain⟨o,_,_,_,ho,_⟩:=x;exact⟨o,ho⟩
theorem ayj{P:Program}{w:World}{a:Addr}{b:Bool}{h:Heap}(e:h.get? a=some (apo b)):SetTx P w a [] h :=
 ⟨_, #[],0,_,e,⟨rfl,rfl,rfl⟩,rfl,λe he=>by simp at he,λk=>by simp,by decide,by simp[SetTable.fits,SetTable.fresh,SetTable.fill],rfl⟩
section
variable{prog:Program}{w:World}{A:Around}{R:Result->Shared->Prop}{s:Shared}{aD t0 i0:Expr}{aB:Scope}{pos:Pos}{it acc:Value}{env:Env}
theorem agt(J:Nat->Shared->Prop)
  (step:∀m z,J m z->wpAny (model prog w) A (pyNext it) (λgot z1=>match got with
   |none=>R (.ok .next) z1
   |some v=>wpAny (model prog w) A (letOwnedTupleGo t0 it v) (λ_ z2=>wpAny (model prog w) A (assign t0 env v) (λ_ z3=>wpAny (model prog w) A (eval aD env) (λx z4 =>
     wpAny (model prog w) A (call (.builtin "set.add") [acc,x]) (λ_ z5=>∃m',m'<m/\J m' z5) (λ_ _=>False) z4)
     (λ_ _=>False) z3) (λ_ _=>False) z2) (λ_ _=>False) z1) (λ_ _=>False) z)
  (m:Nat) (j0:J m s):codeAny (model prog w) A (.compLoop (.SetComp aD [⟨t0,i0,[],0⟩] aB pos) 0 it acc env) R s:=by
 refine codeAny_loop rfl J (λm z hj=>(wpAny_noted ?_:wpAny _ _ ((compTurn (.SetComp aD [⟨t0,i0,[],0⟩] aB pos) 0 it acc env).onRaise _) _ _ z)) m j0;show wpAny (model prog w) _ (standAt i0.pos>>=λ_=>pyNext it>>=_) _ _ z
 apply ax
 apply dY
 apply ax
 refine bP (step m z hj) (λgot z1 h1=>?_) λ_ _ no=>no.elim
 match got,h1 with
 |none,h1=>exact aS h1
 |some v,h1 =>
  apply ax
  refine bP h1 (λ_ z2 h2=>?_) λ_ _ no=>no.elim
  apply ax
  refine bP h2 (λ_ z3 h3=>?_) λ_ _ no=>no.elim;show wpAny (model prog w) _ ((eval aD env>>=λx=>standAt aD.pos>>=λ_=>call (.builtin "set.add") [acc,x]>>=λ_=>pure ())>>=_) _ _ _
  apply ax
  apply ax
  refine bP h3 (λx z4 h4=>?_) λ_ _ no=>no.elim
  apply ax
  apply dY
  apply ax
  exact bP h4 (λ_ z5 h5=>aS (aS ⟨rfl,h5⟩)) λ_ _ no=>no.elim
theorem ae4(h0:codeAny (model prog w) A (.compLoop (.SetComp aD [⟨t0,i0,[],0⟩] aB pos) 0 it acc env) R s)
  (h:wpAny (model prog w) A (pyIter it) (λit' s'=>codeAny (model prog w) A (.compLoop (.SetComp aD [⟨t0,i0,[],0⟩] aB pos) 0 it' acc env) R s') (λ_ _=>False) s) :
  codeAny (model prog w) A (.compStart (.SetComp aD [⟨t0,i0,[],0⟩] aB pos) 0 it acc env) R s:=by
 apply codeAny_of_tree
 show wpAny (model prog w) _ ((compStart (.SetComp aD [⟨t0,i0,[],0⟩] aB pos) 0 it acc env).onRaise _) _ _ s
 apply wpAny_onRaise
 unfold compStart;show wpAny (model prog w) _ (ask>>=_) _ _ s
 apply ax
 apply wpAny_askSetting
 refine wpAny_ite ?_
 split
 .first
  |exact aS ⟨rfl,h0⟩
  |exact ax (aS (aS ⟨rfl,h0⟩))
 .apply ax
  apply wpAny_rule
  show wpAny (model prog w) _ (standAt i0.pos>>=_) _ _ s
  apply ax
  apply dY
  apply ax
  exact bP h (λit' s' h'=>aS ⟨rfl,h'⟩) λ_ _ no=>no.elim
end
section
variable{X:Cx}
def auz(P:Program)(w:World)(s0:St)(g0:TG)(te:TE)(Q:VK)(J0:It)(H1:Hp):Prop :=
 ∃W:Nat->Nat->List Str->Hp->Prop,(∃m,W 0 m [] H1)/\∀i m ks H,W i m ks H->
  (J0.stop i H/\∀p,H p=none->Q (.ref p) (upd H p (ab0 P w p ks))) \/
  (J0.go i H/\∀x H',J0.yld i H x H'->g0 x s0 H' λσ2 H2=>Ext s0 σ2/\te σ2 H2 λz H5=>∃k,z=.str k/\ks.length+1<scanBound/\∃m',m'<m/\W (i+1) m' (stepT ks k) H5)
noncomputable def ayk(P:Program)(w:World)(wi0:TI)(s0:St->St)(g0:TG)(te:TE):TE:=λσ H Q=>wi0 σ H λJ0 H1=>auz P w (s0 σ) g0 te Q J0 H1
theorem agu{Y:Cx}{ac it:Addr}{fp:List Addr}{tn:Nat->Heap->Prop}{J0:It}{σ0:St}{H2:Hp}{s4:Shared}{W:Nat->Nat->List Str->Hp->Prop}{Q:VK}{R:Result->Shared->Prop}{t0 i0 aD:Expr}{aB:Scope}{pos:Pos}{g0:TG}{te:TE}{m0:Nat}(Yc:Y.calm=true)(no:∀v s,Y.xe v s->False)(Yn:Y.pn=[])
  (T:Turn Y.prog Y.w Y.K t0 J0 fp it tn)
  (stat:∀{H':Hp},(∀b∈fp,H' b=none)->∀b∈fp,FpOk Y [] H' b) (statA:∀{H':Hp},H' ac=none->FpOk Y [] H' ac) (accF:ac∉fp) (YG0:PG Y t0 g0) (YE:PE Y aD te)
  (turn:∀i m ks H,W i m ks H->(J0.stop i H/\∀p,H p=none->Q (.ref p) (upd H p (ab0 Y.prog Y.w p ks))) \/
   (J0.go i H/\∀x H',J0.yld i H x H'->g0 x σ0 H' λσ2 H2=>Ext σ0 σ2/\te σ2 H2 λz H5=>∃k,z=.str k/\ks.length+1<scanBound/\∃m',m'<m/\W (i+1) m' (stepT ks k) H5))
  (w0:W 0 m0 [] H2) (K0:Inv Y [] σ0 H2 s4) (st4:tn 0 s4.heap) (f0:∀b∈fp,H2 b=none) (fa:H2 ac=none) (hacc:SetTx Y.prog Y.w ac [] s4.heap)
  (fin:∀s6 H6 ks,Inv Y [] σ0 H6 s6->H6 ac=none->SetTx Y.prog Y.w ac ks s6.heap->(∀p,H6 p=none->Q (.ref p) (upd H6 p (ab0 Y.prog Y.w p ks)))->R (.ok .next) s6) :
  codeAny (model Y.prog Y.w) Y.A (.compLoop (.SetComp aD [⟨t0,i0,[],0⟩] aB pos) 0 (.ref it) (.ref ac) Y.env) R s4:=by
 refine agt (λn s'=>∃i σ' H' ks,Inv Y [] σ' H' s'/\Ext (σ0) σ'/\tn i s'.heap/\(∀b∈fp,H' b=none)/\H' ac=none /\
  SetTx Y.prog Y.w ac ks s'.heap/\W i n ks H') ?_ m0
  ⟨0,_,H2,[],K0,⟨rfl,λ_ _ z=>z⟩,st4,f0,fa,hacc,w0⟩
 rintro n s5 ⟨i,σ5,H5,ks,I5,x5,st5,fr5,fa5,ac5,w5⟩
 have I5':Inv Y [] (σ0) H5 s5:=I5.weak x5.1.symm x5.2;have hao:∃o,s5.heap.get? ac=some o/\∀v,o.data≠.cell v:=by
  obtain⟨o,es,ep,t,ho,_,hd,_⟩:=ac5;exact⟨o,ho,λv z=>by rw[hd]at z;cases z⟩
 have I5p:Inv Y (a0f [ac] s5.heap) (σ0) H5 s5:=Inv.pinned (aA:=[]) (fp:=[ac]) I5' (λb hb=>by rw[aK.mp hb];exact statA fa5) (λb hb=>by rw[aK.mp hb];exact hao)
 have F5:∀b∈fp,FpOk Y (a0f [ac] s5.heap) H5 b:=λb hb=>(stat fr5 b hb).on Yn (fr5 b hb) (λz=>accF (by rw[aK.mp z]at hb;exact hb))
 obtain⟨ao,hao1,hao2⟩:=hao;have pa:(ac,ao)∈a0f [ac] s5.heap:=yz (by simp) hao1
 rcases turn i n ks H5 w5 with⟨stop,qn⟩|⟨go,step⟩
 .refine thn (T.done Y rfl rfl rfl Yc i _ s5 _ H5 _ I5p F5 st5 stop) ?_
  rintro r s6 ⟨hr,I6⟩
  subst hr;have e6:=(I6.pin (ac,ao) (br _ pa)).1;have S6:SetTx Y.prog Y.w ac ks s6.heap:=ac5.keep λo ho=>by rw[hao1]at ho;cases ho;exact e6
  exact fin s6 H5 ks I6.unpinned' fa5 S6 qn
 .refine thn (T.item Y rfl rfl rfl Yc i _ s5 _ H5 _ I5p F5 st5 go) ?_
  rintro r s6 ⟨u,hr,h6⟩
  subst hr;refine thn h6 ?_
  rintro _ s7 ⟨x,H7,I7,r7,y7,st7,fr7⟩
  have fa7:H7 ac=none:=(I7.pin (ac,ao) (br _ pa)).2.1;have ac7:=(I7.pin (ac,ao) (br _ pa)).1;have S7:SetTx Y.prog Y.w ac ks s7.heap:=ac5.keep λo ho=>by rw[hao1]at ho;cases ho;exact ac7
  have obj7:∀b∈ac::fp,∃o,s7.heap.get? b=some o/\∀v,o.data≠.cell v:=λb hb=>by
   rcases aZ.mp hb with e|e
   .subst e;exact⟨_,ac7,hao2⟩
   .exact T.obj _ _ st7 b e
  have I7':Inv Y (a0f (ac::fp) s7.heap) (σ0) H7 s7:=by
   refine Inv.pinned (aA:=[]) (fp:=ac::fp) I7.unpinned' (λb hb=>?_) obj7
   rcases aZ.mp hb with e|e
   .subst e;exact statA fa7
   .exact stat fr7 b e
  refine bP (YG0 _ s7 _ H7 x u _ I7' r7 (step x H7 y7)) (λ_ s8 ⟨σ8,H8,I8,x8,q8⟩=>?_) no;refine bP (YE _ s8 _ H8 _ I8 q8) (λyv s9 ⟨z,H9,I9,rz,k,ez,few,m',hm',w9⟩=>?_) no;subst ez;obtain⟨tk,rfl⟩:=rz;have pin9:∀b∈ac::fp,∀o,s7.heap.get? b=some o->s9.heap.get? b=some o/\H9 b=none:=λb hb o e=>by
   obtain⟨z1,z2,_⟩:=I9.pin (b,o) (br _ (yz hb e));exact⟨z1,z2⟩
  have S9:SetTx Y.prog Y.w ac ks s9.heap:=S7.keep λo ho=>(pin9 ac (by simp) o ho).1
  have fa9:H9 ac=none:=(pin9 ac (by simp) _ ac7).2
  refine call_set_add (knd:=strKind Y.prog Y.w) (k:=k) (strKind_is _ _ _ _) rfl S9 few λh' sb x'=>?_;have qo:∀b o,b≠ac->s9.heap.get? b=some o->h'.get? b=some o:=λb o hb e=>sb.extBut b o hb e;obtain⟨a0,a1,a2,a3,a4,a5'⟩:=statA fa9;have nac:∀b∈fp,b≠ac:=λb hb z=>accF (z ▸ hb);refine⟨m',hm',i+1,σ8,H9,_,(I9.unpinned').turned (t':=s9.toks+1) qo a0 a1 a3 a4 a5',x8,?_,?_,fa9,SetTx.add x',w9⟩
  .exact T.keep _ _ _ st7 λb hb o e=>qo b o (nac b hb) (pin9 b (aQ _ hb) o e).1
  .intro b hb
   obtain⟨o,e,_⟩:=T.obj _ _ st7 b hb;exact(pin9 b (aQ _ hb) o e).2
theorem akp{pos:Pos}{aD t0 i0:Expr}{aB:Scope}{cl:List (Str×Addr)}{ts fr:List Str}{ix:List Nat}{wi0:TI}{g0:TG}{te:TE}(hc:X.calm=true)(S:CSc X aB cl ts fr ix)(hi0:PI X t0 i0 wi0)
  (hg0:∀C fp s H,PG (cxC X (ts++fr) aB cl C fp s H) t0 g0) (he:∀C fp s H,PE (cxC X (ts++fr) aB cl C fp s H) aD te)
  (hs0:∀x,foldedSetIterable i0 X.env x=pure x:=by intro _;rfl) :
  PE X (.SetComp aD [⟨t0,i0,[],0⟩] aB pos) (ayk X.prog X.w wi0 (xj ts.length ix) g0 te):=by
 intro aA s σ H Q I h
 rw[agp];refine wpAny_comprehension_free (use:=none) rfl hs0 S.clos S.kind S.names (thn (hi0 aA s σ H _ I h) λv s1 h1=>thn h1 λitv s2 h2=>?_);obtain⟨it,fp,tn,J,H2,e,I2,T,st2,f2,W,⟨m0,w0⟩,turn⟩:=h2;subst e;have hob:∀b∈fp,b<s2.heap.objs.size:=λb hb=>let ⟨o,e,_⟩:=T.obj _ _ st2 b hb;aT e;refine apq (af9 S.own S.push S.kind λh4 hns4 hc4 hsb4=>?_);dsimp only at hns4 hc4 hsb4 ⊢
 generalize hH2:s2.heap.push (apo (!byT X.w))=G at hns4 hc4 hsb4 ⊢
 have hCs:G.objs.size=s2.heap.objs.size+1:=by rw[<-hH2,eQ]
 have hCle:s2.heap.objs.size<=G.objs.size:=by omega
 have hne:G.objs.size≠s2.heap.objs.size:=by omega
 have old:∀b o,s2.heap.get? b=some o->h4.get? b=some o:=λb o e=>by
  have hlt:=aT e;exact hsb4 b o ((hH2 ▸ aI _ e))
 have hacc:SetTx X.prog X.w s2.heap.objs.size [] h4 :=
  ayj (hsb4 _ _ (hH2 ▸ bo _ rfl))
 have K0:Inv (cxC X (ts++fr) aB cl G.objs.size fp s2 H2) [] (xj ts.length ix σ) H2 {s2 with heap:=h4} :=
  afc S I2 f2 hob hCle old hns4 hc4 rfl rfl
 have st4:tn 0 h4:=T.keep _ _ _ st2 λb _ o e=>old b o e;have accF:s2.heap.objs.size∉fp:=λz=>cH _ (hob _ z);have stat:∀{H':Hp},(∀b∈fp,H' b=none)->∀b∈fp,FpOk (cxC X (ts++fr) aB cl G.objs.size fp s2 H2) [] H' b:=λhn b hb =>
  asp (a8u S I2 f2 hob hCle) rfl (hn b hb) hb
 have statA:∀{H':Hp},H' s2.heap.objs.size=none->FpOk (cxC X (ts++fr) aB cl G.objs.size fp s2 H2) [] H' s2.heap.objs.size:=λhn =>
  am5 (a8u S I2 f2 hob hCle) rfl hn rfl (eD hne) λx c e=>afd I2 (S.sub x c e)
 have loop:codeAny (model X.prog X.w) X.A (.compLoop (.SetComp aD [⟨t0,i0,[],0⟩] aB pos) 0 (.ref it) (.ref s2.heap.objs.size) (compEnvC aB cl G.objs.size X.env))
   (compPost (model X.prog X.w) X.A X.xe none (EP X aA σ Q) (.ref s2.heap.objs.size) G.objs.size) {s2 with heap:=h4} :=
  agu (Y:=cxC X (ts++fr) aB cl G.objs.size fp s2 H2) hc (λ_ _ h=>h) rfl T stat statA accF (hg0 _ _ _ _) (he _ _ _ _) turn w0 K0 st4 (λb hb=>(f2 b hb).1) (I2.hok.fresh (a9 _)) hacc λs6 H6 ks I6 fa S6 qn=>by
   obtain⟨m6,hn6,_⟩:=I6.loc;refine a7k (X:=X) s2.heap.objs.size G.objs.size s6 (upd H6 s2.heap.objs.size (ab0 X.prog X.w s2.heap.objs.size ks)) m6 hn6 (I2.fpOk hCle (by rw[jk hne];exact I6.free)) (λh' sb=>?_) (qn _ fa)
   exact ae2 I2 f2 hCle (a9 _) I6 fa (ako (S6.keep λo ho=>sb.extBut _ _ (eD hne) ho)) sb
 exact ae4 loop (T.self _ 0 _ _ _ st4 loop)
theorem agv(hc:X.calm=true):CallR X (.builtin "len") (λxs H Q=>∃(p:Addr) (ns:List Str),xs=[.ref p]/\H p=some (ab0 X.prog X.w p ns)/\Q (.int ns.length) H):=by
 intro aA s σ H xs us Q I r ⟨p,ns,e,hp,q⟩
 subst e;obtain⟨u,rfl,ru⟩:=vals1 r;cases ru
 obtain⟨hS,_⟩:=I.hok p _ hp;obtain⟨o,es,ep,t,ho,hex,hd,_,_,hb,hf,hn⟩:=hS;refine PySem.call_len_set ho hex hd hf (by unfold scanBound at hb;omega) ⟨.int ns.length,H,I.tok _,⟨_,by rw[hn]⟩,q⟩
end
end L2
namespace MI
open L2
open Classical in
def akq(ck:Hd->Prop)(f:D->Hd->R D):List D->List Str->Hd->R (List Str)
 |[],ns,h=>if ck h then .ok ns h else .no
 |x::xs,ns,h=>if ck h then (f x h).bind λy h1=>(match y with|.str k=>if ns.length<63 then akq ck f xs (stepT ns k) h1 else .no|_=>.no) else .no
noncomputable def akr(ns:List Str)(h:Hd):R D:=.ok (.int (ns.length:Nat)) h
def aks(fi:SI)(t:D->Option Sd)(fe:SE)(ix:List Nat):SE:=λτ h=>(fi τ h).bind λit h1=>(akq it.ck (a2t t fe (frs' ix τ)) it.xs [] h1).bind akr
def ayl(P:Program)(w:World):List V->Hp->VK->Prop:=λxs H Q=>∃(p:Addr) (ns:List Str),xs=[.ref p]/\H p=some (ab0 P w p ns)/\Q (.int ns.length) H
section
variable{K:Fg}{E:XD}{J:It}{it:Itm}{fe:SE}{r:St}{rd:Sd}{U0:List Addr}{H0:Hp}{h0:Hd}{Q:VK}{n:Nat}{g:TG}{t:D->Option Sd}
theorem akt(P:Program)(w:World)(ir:aok K U0 H0 J it)(tg:aef K n g t)(S:SRep K U0 H0 r rd)(Rh:HRep K U0 H0 h0)
  (o:out K E (ur K) U0 H0 ((akq it.ck (a2t t fe rd) it.xs [] h0).bind akr) Q):auz P w (List.replicate n none++r) g (lift K E (ur K) fe) (λv H=>ayl P w [v] H Q) J H0:=by
 refine⟨λi m ks H=>m=it.xs.length-i/\i<=it.xs.length/\∃U h,Gr U0 H0 U H/\HRep K U H h/\out K E (ur K) U H ((akq it.ck (a2t t fe rd) (it.xs.drop i) ks h).bind akr) Q,
  ⟨_,rfl,bH _,U0,h0,.refl _ _,Rh,o⟩,?_⟩
 rintro i m ks H ⟨rfl,hi,U,h,g0,Rh,o⟩
 by_cases hlt:i<it.xs.length
 .rw[de hlt,akq]at o
  by_cases hc:it.ck h
  .rw[av hc,R.bind_assoc]at o;obtain⟨go,yl⟩:=(ir U H h g0 Rh hc).1 i _ (a8 hlt);refine .inr ⟨go,λx H' y=>?_⟩;obtain⟨g1,r1,hr1⟩:=yl x H' y;have o':=a5d o g1
   cases ht:t it.xs[i] with
   |none=>simp only[a2t,ht]at o';exact o'.elim
   |some ts =>
    simp only[a2t,ht]at o';refine tg U H' x _ ts r _ r1 ht λus hus su=>⟨aap hus,U,ts++rd,h,a3l su (S.mono (g0.trans g1)),hr1,dg o' λd2 h2 U2 H2 u g2 r2 hr2 o2=>?_⟩
    cases r2 with
    |str k =>
     dsimp only at o2
     by_cases h6:ks.length<63
     .rw[av h6]at o2;exact⟨k,rfl,by have:scanBound=4096:=rfl;omega,it.xs.length-(i+1),by omega,rfl,hlt,U2,h2,(g0.trans g1).trans g2,hr2,o2⟩
     .rw[aO h6]at o2;exact o2.elim
    |_=>exact o2.elim
  .rw[aO hc]at o;exact o.elim
 .have e:i=it.xs.length:=by omega
  subst e;rw[cA (a9 _),akq]at o
  by_cases hc:it.ck h
  .rw[av hc]at o;refine .inl ⟨(ir U H h g0 Rh hc).2,λp hp=>⟨p,ks,rfl,qe,?_⟩⟩;have o1:out K E (ur K) U H (akr ks h) Q:=o;exact o1 U _ (.int (ks.length:Nat)) (a1e hp _) (.int _) (Rh.aside hp _)
  .rw[aO hc]at o;exact o.elim
end
section
variable{X:Cx}{E:XD}{aD tg aF:Expr}{aB:Scope}{p pos spos:Pos}{cl:List (Str×Addr)}{ts fr:List Str}{ix:List Nat}{fi:SI}{g:TG}{t:D->Option Sd}{fe:SE}
theorem apu(hgl:Gl X "len")(hm:X.mg "len" = none)(hc:X.calm=true)(S:CSc X aB cl ts fr ix)(hi:MI X E tg aF fi)(hg:∀C fp s H,PG (cxC X (ts++fr) aB cl C fp s H) tg g)(ht:aef X.K ts.length g t)(he:∀C fp s H,ME (cxC X (ts++fr) aB cl C fp s H) E aD fe)
  (hs:∀x,foldedSetIterable aF X.env x=pure x:=by intro _;rfl):ME X E (.Call (.Name "len" p) [.SetComp aD [⟨tg,aF,[],0⟩] aB spos] [] pos) (aks fi t fe ix):=by
 refine PE.weak (a3i (agv hc) hgl hm afk (uo (akp (te:=lift X.K E (ur X.K) fe) hc S hi hg he hs) a4s)) ?_
 rintro σ H Q ⟨U,τ,h,Sr,Rh,o⟩
 refine⟨U,τ,h,Sr,Rh,dg o λit h1 U1 H1 J g1 r1 hr1 o1=>?_⟩;exact akt X.prog X.w r1 ht (a3m (Sr.mono g1) ix) hr1 o1
end
end MI
namespace MI
open L2 SeqAt
noncomputable def av0:D->D->Hd->R D
 |.tup [.str a,.tup xs],.tup [.str b,.tup []],h=>.ok (.bl (a == b && xs.isEmpty)) h
 |_,_,_=>.no
noncomputable def azq(K:Fg):R2:=λx y H Q=>∃U a b xs,Rep K U H x (.tup [.str a,.tup xs])/\Rep K U H y (.tup [.str b,.tup []])/\Q (.bl (a == b && xs.isEmpty)) H
theorem agw{K:Fg}{U:List Addr}{H:Hp}{vs:List V}{its:List Value}{a:Str}{xs:List D}(rs:Reps K U H vs [.str a,.tup xs])(r:Vals vs its) :
  ∃t p ws,its=[.str a t,.ref p]/\H p=some (.tup ws)/\Reps K U H ws xs:=by
 cases rs with
 |cons r1 rs =>
  cases rs with
  |cons r2 rs =>
   cases rs
   cases r1
   cases r2 with
   |@tup p ws _ hp rw' =>
    cases r with
    |cons e1 r =>
     cases r with
     |cons e2 r =>
      cases r
      obtain⟨t,rfl⟩:=e1;cases e2
      exact⟨t,p,ws,rfl,hp,rw'⟩
theorem av1{X:Cx}(hu:X.A.units+64<cLine):OpR X (compareOp .Eq) (azq X.K):=by
 intro aA s σ H x y v u Q I rx ry h
 obtain⟨U,a,b,xs,r,q,hq⟩:=h;obtain⟨pa,vs,rfl,ha,rs⟩:=a4h r;obtain⟨pb,us,rfl,hb,qs⟩:=a4h q
 cases rx;cases ry
 obtain⟨_,its,r1,t1⟩:=(Rd.of ha).ok I.hok;obtain⟨_,its2,r2,t2⟩:=(Rd.of hb).ok I.hok;obtain⟨ta,p,ws,rfl,hp,rp⟩:=agw rs r1;obtain⟨tb,p2,ws2,rfl,hp2,rp2⟩:=agw qs r2;have t1:=t1.r;have t2:=t2.r;cases rp2
 obtain⟨_,i3,r3,t3⟩:=(Rd.of hp).ok I.hok;obtain⟨_,i4,r4,t4⟩:=(Rd.of hp2).ok I.hok;have t3:=t3.r;have t4:=t4.r;cases r4
 have inner:EqAt X.A.in1 s (.ref p) (.ref p2) xs.isEmpty:=by
  by_cases hab:p=p2
  .subst hab;rw[hp]at hp2;cases hp2
   cases rp
   exact EqAt.same _
  .have c:=RcAt.tuples (A:=X.A.in1) (s:=s) (e:=λ_=>true) t3 t4 (by rw[eX];omega) λj h1 h2=>absurd h2 (by simp)
   have e:((List.range (min i3.toArray.size ([]:List Value).toArray.size)).all (λ_=>true) && i3.toArray.size == ([]:List Value).toArray.size)=xs.isEmpty:=by
    have l:i3.length=xs.length:=by rw[<-r3.length,rp.len]
    cases xs with
    |nil=>have:i3=[]:=dG.mp (by simpa using l);subst this;rfl
    |cons x xs=>cases i3 with
     |nil=>simp at l
     |cons i is=>simp
   rw[e]at c;exact EqAt.of_refs hab c
 have c:=RcAt.tuples (A:=X.A) (s:=s) (e:=λj=>if j=0 then a == b else xs.isEmpty) t1 t2 (by omega) (λj h1 h2=>by
  match j,h1,h2 with
  |0,_,_=>exact EqAt.str_str a ta b tb
  |1,_,_=>exact inner
  |j+2,h1,_=>exact absurd h1 (by simp))
 have e:((List.range (min ([Value.str a ta,.ref p]:List Value).toArray.size ([Value.str b tb,.ref p2]:List Value).toArray.size)).all (λj=>if j=0 then a == b else xs.isEmpty) && ([Value.str a ta,.ref p]:List Value).toArray.size == ([Value.str b tb,.ref p2]:List Value).toArray.size)=(a == b && xs.isEmpty):=by
  show(List.all [0,1] _ && true)=_;simp
 rw[e]at c;exact c X.prog X.w X.xe _ ⟨.bl _,H,I,rfl,hq⟩
theorem apv{K:Fg}:a01 K av0 (azq K):=by
 intro E U H h x y dx dy Q rx ry hr o
 unfold av0 at o
 split at o
 .exact⟨U,_,_,_,rx,ry,ans o (.bl _) hr⟩
 .exact o.elim
end MI
namespace MI
open L2
abbrev S(l:List Nat):Str:=⟨l.toArray⟩
theorem yu(l:List Nat):(S l).cps.toList=l:=by simp
theorem a4y(l:List Nat):(S l).length=l.length:=by simp[Str.length]
theorem a1b(x:Str):S x.cps.toList=x:=by cases x;simp
theorem apw(a b:List Nat):S a++S b=S (a++b):=by rw[<-a1b (S a++S b),ay0]
theorem aym(h:S a=S b):a=b:=by
 have:=ah (λx:Str=>x.cps.toList) h
 simpa using this
theorem av2(a b:List Nat):(S a == S b)=decide (a=b):=by
 by_cases h:a=b
 .subst h;simp
 .have:¬ S a=S b:=λz=>h (aym z)
  simp[h]
section
variable{h:Hd}{a b l:List Nat}{i:Nat}{c:Nat}
theorem aku(hl:l.length<=LINE)(e:l[i]? = some c):gIx (.str (S l)) (.int (i:Nat)) h=.ok (.str (S [c])) h:=by
 unfold gIx;simp only[a4y,av hl,yu,vp e]
theorem a2v(hl:a.length+b.length<=LINE):dm (.str (S a)) (.str (S b)) h=.ok (.str (S (a++b))) h:=by
 unfold dm;simp only[a4y,av hl,apw]
theorem a4z(hl:l.length<=LINE):kj [.str (S l)] h=.ok (.int l.length) h:=by
 unfold kj;simp only[a4y,av hl]
theorem akv(k:Nat)(hl:l.length<=LINE):acg (.str (S l)) none (some (k:Int)) h=.ok (.str (S (l.take k))) h:=by
 show gSl (.str (S l)) none (some (k:Int)) h=_;unfold gSl;simp only[a4y,av hl,yu,aah]
theorem a74(k:Nat)(hl:l.length<=LINE):acg (.str (S l)) (some (k:Int)) none h=.ok (.str (S (l.drop k))) h:=by
 show gSl (.str (S l)) (some (k:Int)) none h=_;unfold gSl;simp only[a4y,av hl,yu,a8z]
end
section
variable{h:Hd}{i j:Int}{xs ys:List D}
theorem a5k:gIx (.tup xs) (.int i) h=(match atI xs i with|some d=>.ok d h|none=>.no):=rfl
theorem a9l:gIx (.rol xs) (.int i) h=(match atI xs i with|some d=>.ok d h|none=>.no):=rfl
theorem a9m:gIx (.ref k) (.int i) h=(match xn (.ref k) h with|some xs=>(match atI xs i with|some d=>.ok d h|none=>.no)|none=>.no):=rfl
theorem a66:kj [.tup xs] h=.ok (.int xs.length) h:=rfl
theorem a4k:kj [.rol xs] h=.ok (.int xs.length) h:=rfl
theorem a7z:kj [.ref k] h=(match xn (.ref k) h with|some xs=>.ok (.int xs.length) h|none=>.no):=rfl
theorem a0y:dm (.int i) (.int j) h=.ok (.int (i+j)) h:=rfl
theorem a2w:a1h (.int i) (.int j) h=.ok (.int (i+j)) h:=rfl
open Classical in
theorem a2l:yq (.int i) (.int j) h=if CMul i j then .ok (.int (i*j)) h else .no:=by unfold yq;rfl
theorem fj(b:Bool):tru (.bl b) h=.ok b h:=rfl
theorem a80:tru (.int i) h=.ok (i != 0) h:=rfl
theorem a81:tru (.rol xs) h=.ok (!xs.isEmpty) h:=rfl
theorem a82:tru (.tup xs) h=.ok (!xs.isEmpty) h:=rfl
theorem a83:tru .non h=.ok false h:=rfl
theorem ab1:hEq (.int i) (.int j) h=.ok (.bl (i == j)) h:=rfl
theorem ab2:hNe (.int i) (.int j) h=.ok (.bl (!(i == j))) h:=rfl
theorem akx(a b:Str):hEq (.str a) (.str b) h=.ok (.bl (a == b)) h:=rfl
theorem av3(a b:Str):hNe (.str a) (.str b) h=.ok (.bl (!(a == b))) h:=rfl
theorem aky(a b:Bool):hEq (.bl a) (.bl b) h=.ok (.bl (a == b)) h:=rfl
theorem akz(a b:Bool):hNe (.bl a) (.bl b) h=.ok (.bl (!(a == b))) h:=rfl
theorem acp(x:D):gIs x .non h=.ok (.bl (a6n x)) h:=by cases x<;>rfl
theorem a3u(x:D):ami x .non h=.ok (.bl (!a6n x)) h:=by cases x<;>rfl
theorem al0(a b:Bool):gIs (.bl a) (.bl b) h=.ok (.bl (a == b)) h:=rfl
theorem a5e(a b:Bool):ami (.bl a) (.bl b) h=.ok (.bl (a != b)) h:=rfl
theorem awx:a6n (.int i)=false:=rfl
theorem awy(x:Str):a6n (.str x)=false:=rfl
theorem awz:a6n .non=true:=rfl
theorem ax0:a6n (.tup xs)=false:=rfl
end
theorem ayn(n:Nat):rng 0 n=(List.range n).map λi:Nat=>D.int (i:Nat):=by
 unfold rng;exact List.map_congr_left λi _=>by rw[Int.zero_add]
theorem apx(h:n<=LINE):B62 (n:Int):=by
 have:n<=16777216:=h
 unfold B62;omega
theorem acq(h:Hd)(z:n<=LINE):a02 [.int (n:Nat)] h=.ok ⟨(List.range n).map λi:Nat=>D.int (i:Nat),λ_=>True⟩ h:=by
 unfold a02;simp only[apx z,ef,eN,ayn]
theorem ayo(e:f τ h=.ok d h):aj f aq τ h=.ok [d] h:=by unfold aj aq;rw[e];rfl
theorem ab3(e:f τ h=.ok (.int (n:Nat)) h)(z:n<=LINE):sRg a02 (aj f aq) τ h=.ok ⟨(List.range n).map λi:Nat=>D.int (i:Nat),λ_=>True⟩ h:=by
 unfold sRg;rw[ayo e,bw];exact acq h z
theorem bh(e:τ[i]? = some (some d)):sV i τ h=.ok d h:=by unfold sV;rw[e]
theorem qj{fi:SI}{t:D->Option Sd}{fe:SE}{ix:List Nat}{τ:Sd}{h:Hd}{α:Type}(g F:α->D)(xs:List α)(e:fi τ h=.ok ⟨xs.map g,λ_=>True⟩ h)(z:xs.length<=LINE)
  (st:∀x∈xs,a2t t fe (frs' ix τ) (g x) h=.ok (F x) h):mj fi t fe ix τ h=.ok (.ref h.length) (h++[.lst (xs.map F)]):=by
 unfold mj;rw[e,bw];dsimp only;rw[av (by rw[aJ];exact z),a9e g F st]
 rfl
theorem a67{fi:SI}{t:D->Option Sd}{c:ST}{fe:SE}{ix:List Nat}{τ:Sd}{h:Hd}{α:Type}(g:α->D)(F:α->Option D)(xs:List α)(e:fi τ h=.ok ⟨xs.map g,λ_=>True⟩ h)(z:xs.length<=LINE)
  (st:∀x∈xs,aao t c fe (frs' ix τ) (g x) h=.ok (F x) h):a1g fi t c fe ix τ h=.ok (.ref h.length) (h++[.lst (xs.filterMap F)]):=by
 unfold a1g;rw[e,bw];dsimp only;rw[av (by rw[aJ];exact z),a9f g F st]
 rfl
theorem v5(fe:SE)(r:Sd)(x:D)(h:Hd):a2t t1 fe r x h=fe (some x::r) h:=rfl
theorem ab4(c:ST)(fe:SE)(r:Sd)(x:D)(h:Hd):aao t1 c fe r x h=(c (some x::r) h).bind λb h1=>if b=true then (fe (some x::r) h1).bind λy h2=>.ok (some y) h2 else .ok none h1:=rfl
section
variable{f k f1 f2 f3:SE}{c c1 c2:ST}{g p q:SS}{τ τ1:Sd}{h h1 h2 h3 h4:Hd}{a b d v:D}{i:Nat}{t u:Bool}
theorem a6o(d:D)(τ:Sd)(h:Hd):sC d τ h=.ok d h:=rfl
theorem av4(e3:G [] h=.ok v h1):sA G aq τ h=.ok v h1:=e3
theorem jo(e1:f τ h=.ok a h1)(e3:G [a] h1=.ok v h2):sA G (aj f aq) τ h=.ok v h2:=by
 have:aj f aq τ h=.ok [a] h1:=by unfold aj;rw[e1];rfl
 unfold sA;rw[this,bw,e3]
theorem lq(e1:f τ h=.ok a h1)(e2:k τ h1=.ok b h2)(e3:G [a,b] h2=.ok v h3):sA G (aj f (aj k aq)) τ h=.ok v h3:=by
 have:aj f (aj k aq) τ h=.ok [a,b] h2:=by unfold aj;rw[e1,bw,e2];rfl
 unfold sA;rw[this,bw,e3]
theorem a2x(e0:f1 τ h=.ok d h1)(e1:f τ h1=.ok a h2)(e2:k τ h2=.ok b h3)(e3:G [d,a,b] h3=.ok v h4):sA G (aj f1 (aj f (aj k aq))) τ h=.ok v h4:=by
 have:aj f1 (aj f (aj k aq)) τ h=.ok [d,a,b] h3:=by unfold aj;rw[e0,bw,e1,bw,e2];rfl
 unfold sA;rw[this,bw,e3]
theorem j9(e:f τ h=.ok d h1):gh (j5 i f) g τ h=g (τ.set i (some d)) h1:=by
 rw[wz];unfold j5;rw[e];rfl
theorem av5(e:f τ h=.ok d h1):j5 i f τ h=.nx (τ.set i (some d)) h1:=by
 unfold j5;rw[e];rfl
theorem rm(e:p τ h=.nx τ1 h1):gh p g τ h=g τ1 h1:=by rw[wz,e];rfl
theorem jd(e:p τ h=.rt d h1):gh p g τ h=.rt d h1:=by rw[wz,e];rfl
theorem ifT(e:c τ h=.ok true h1):sIf c p q τ h=p τ h1:=by unfold sIf;rw[e];rfl
theorem ifF(e:c τ h=.ok false h1):sIf c p q τ h=q τ h1:=by unfold sIf;rw[e];rfl
theorem ifN(e:c τ h=.ok false h1):gh (sIf c p sNx) g τ h=g τ h1:=by rw[wz,ifF e];rfl
theorem tof(e:f τ h=.ok (.bl t) h1):sT f τ h=.ok t h1:=by unfold sT;rw[e];rfl
theorem iy(e:f τ h=.ok d h1)(e':tru d h1=.ok t h2):a0b f τ h=.ok t h2:=by unfold a0b;rw[e,bw,e']
theorem a4a(e:c1 τ h=.ok true h1)(e':c2 τ h1=.ok t h2):yp c1 c2 τ h=.ok t h2:=by unfold yp;rw[e,bw,av rfl,e']
theorem a6p(e:c1 τ h=.ok false h1):yp c1 c2 τ h=.ok false h1:=by unfold yp;rw[e,bw,aO (by simp)]
theorem orT(e:c1 τ h=.ok true h1):sOr c1 c2 τ h=.ok true h1:=by unfold sOr;rw[e,bw,av rfl]
theorem orF(e:c1 τ h=.ok false h1)(e':c2 τ h1=.ok t h2):sOr c1 c2 τ h=.ok t h2:=by unfold sOr;rw[e,bw,aO (by simp),e']
theorem av6(e:c τ h=.ok t h1):a0g c τ h=.ok (!t) h1:=by unfold a0g;rw[e];rfl
theorem um(e:c τ h=.ok true h1):a0g c τ h=.ok false h1:=av6 e
theorem a0z(e:c τ h=.ok false h1):a0g c τ h=.ok true h1:=av6 e
theorem fu(e:f τ h=.ok d h1):jf f τ h=.rt d h1:=by unfold jf;rw[e];rfl
theorem a1c(e:f τ h=.ok (.bl true) h1)(e':k τ h1=.ok d h2):qx f k τ h=.ok d h2:=by unfold qx;rw[e,bw];exact e'
theorem a9n(e1:f τ h=.ok d h1)(l:isL d h1=true)(e2:A τ h1=.ok ds h2)(e3:G d ds h2=.ok v h3):a4g (sML G f A) τ h=.nx τ h3:=by
 unfold a4g sML;rw[e1,bw,av l,e2,bw,e3];rfl
theorem arg1(e:f τ h=.ok d h1):aj f aq τ h=.ok [d] h1:=by unfold aj aq;rw[e];rfl
theorem jb(e1:f τ h=.ok a h1)(e2:k τ h1=.ok b h2)(e3:G a b h2=.ok v h3):s2 G f k τ h=.ok v h3:=by
 unfold s2;rw[e1,bw,e2,bw,e3]
theorem nj(e:τ[i]? = some (some a))(e3:G a d h=.ok v h3):s2 G (sV i) (sC d) τ h=.ok v h3:=jb (bh e) (a6o _ _ _) e3
theorem ckk:sC d τ h=.ok d h:=rfl
theorem tvc(e:τ[i]? = some (some a))(e3:G a d h=.ok (.bl t) h3):sT (s2 G (sV i) (sC d)) τ h=.ok t h3:=tof (jb (bh e) (a6o _ _ _) e3)
theorem t2s(e1:f τ h=.ok a h1)(e2:k τ h1=.ok b h2)(e3:G a b h2=.ok (.bl t) h3):sT (s2 G f k) τ h=.ok t h3:=tof (jb e1 e2 e3)
theorem ifr(e:c τ h=.ok true h1)(e2:f τ h1=.ok d h2):sIf c (jf f) q τ h=.rt d h2:=ai (ifT e) (fu e2)
theorem ets{rr:R D}(e:f τ h=.ok d h1)(e2:toR (g (τ.set i (some d)) h1)=rr):toR (gh (j5 i f) g τ h)=rr:=by rw[j9 e,e2]
theorem eti{rr:R D}(e:c τ h=.ok false h1)(e2:toR (g τ h1)=rr):toR (gh (sIf c p sNx) g τ h)=rr:=by rw[ifN e,e2]
theorem etr{fa fb:Fl}{rr:R D}(e:fa=fb)(e2:toR fb=rr):toR fa=rr:=by rw[e,e2]
theorem ae5(e1:f τ h=.ok a h1)(e3:G a h1=.ok v h2):s1 G f τ h=.ok v h2:=by
 unfold s1;rw[e1,bw,e3]
theorem ae6(ht:τ[i]? = some (some a))(e:f τ h=.ok b h1)(e2:G a b h1=.ok d h2):abz i G f τ h=.nx (τ.set i (some d)) h2:=by
 unfold abz;rw[ht];dsimp only;rw[e,a1k,e2];rfl
theorem ae7(e:f τ h=.ok d h1)(e2:G d τ h1=.nx τ1 h2):afr f G τ h=.nx τ1 h2:=by
 unfold afr;rw[e,a1k,e2]
theorem av7(e1:f1 τ h=.ok v h1)(e2:f2 τ h1=.ok a h2)(e3:f3 τ h2=.ok b h3)(e4:put a b v h3=some h4):adp f1 f2 f3 τ h=.nx τ h4:=by
 unfold adp;rw[e1,a1k,e2,a1k,e3,a1k,e4]
theorem a9o{fi:SI}{G:SG}{b:SS}{xs:List D}{ck:Hd->Prop}(e:fi τ h=.ok ⟨xs,ck⟩ h1):gh (adq fi G b) g τ h=thn (forL ck G b xs τ h1) g:=by
 rw[wz];unfold adq;rw[e];rfl
theorem a75(e:f τ h=.ok d h1)(e2:aje d h1=.ok ⟨xs,ck⟩ h1):sIt f τ h=.ok ⟨xs,ck⟩ h1:=by
 unfold sIt;rw[e,bw,e2]
theorem acr(e:h[i]? = some (.lst xs))(z:xs.length<LINE):adt (.ref i) [a] h=.ok .non (h.set i (.lst (xs++[a]))):=by
 unfold adt;simp only[e,av z]
theorem a9p(e:h[i]? = some (.lst xs))(hj:xs[j]? = some y):gIx (.ref i) (.int (j:Nat)) h=.ok y h:=by
 rw[a9m];unfold xn;simp only[e,vp hj]
theorem ayp(hj:xs[j]? = some y):gIx (.rol xs) (.int (j:Nat)) h=.ok y h:=by
 rw[a9l];simp only[vp hj]
theorem a6q(hj:xs[j]? = some y):gIx (.tup xs) (.int (j:Nat)) h=.ok y h:=by
 rw[a5k];simp only[vp hj]
theorem agx(e:h[i]? = some (.lst xs)):u5 [.ref i] h=.ok (.tup xs) h:=by
 unfold u5 xn;simp only[e]
theorem div_ii(c:0<y/\y<1073741824):a6m (.int x) (.int y) h=.ok (.int (x / y)) h:=by unfold a6m;exact av c
theorem a68(c:0<y):a3z (.int x) (.int y) h=.ok (.int (x%y)) h:=by unfold a3z;exact av c
theorem acs(c:y<x):gGt (.int x) (.int y) h=.ok (.bl true) h:=by unfold gGt;simp only[c,fR]
theorem acu(c:¬ y<x):gGt (.int x) (.int y) h=.ok (.bl false) h:=by unfold gGt;simp only[c,fF]
theorem acv(c:x<y):gLt (.int x) (.int y) h=.ok (.bl true) h:=by unfold gLt;simp only[c,fR]
theorem a9q(c:¬ x<y):gLt (.int x) (.int y) h=.ok (.bl false) h:=by unfold gLt;simp only[c,fF]
theorem xu(c:x=y):hEq (.int x) (.int y) h=.ok (.bl true) h:=by rw[ab1,c,cV]
theorem wk(c:¬ x=y):hEq (.int x) (.int y) h=.ok (.bl false) h:=by rw[ab1,bQ.mpr c]
theorem a5a(c:x=y):hNe (.int x) (.int y) h=.ok (.bl false) h:=by rw[ab2,c,cV];rfl
theorem a69(c:¬ x=y):hNe (.int x) (.int y) h=.ok (.bl true) h:=by rw[ab2,bQ.mpr c];rfl
theorem a5b(x:Int):ai8 (.int x) h=.ok (.int (-x)) h:=rfl
theorem ym(x y:Int):MI.a3h (.int x) (.int y) h=.ok (.int (x-y)) h:=rfl
theorem bx(h:n<=1000000):n<=LINE:=by show n<=16777216;omega
theorem acw(h:n<=1000000):n<LINE:=by show n<16777216;omega
theorem a05:MI.dj [a,b] h=.ok (.tup [a,b]) h:=by unfold MI.dj;rw[av (bx (by simp))]
end
end MI
namespace L2
open PyProof.Rows
theorem acx(x:Array Nat):∀(n:Nat) (a:Array Nat),(List.replicate n x).foldl (·++·) a=(a.toList++(List.replicate n x.toList).flatten).toArray
 |0,a=>by simp
 |n+1,a=>by rw[bZ,dC,acx x n];simp[bZ]
theorem al1{α:Type}(n:Nat)(l:List α):(List.replicate n l).flatten.length=n*l.length:=by simp
noncomputable def av8:R2:=λx y H Q=>∃z k,x=.str z/\y=.int k /\ -1000000<=k/\k<=1000000/\z.length*k.toNat<=sizeLine/\Q (.str ⟨((List.replicate k.toNat z.cps.toList).flatten).toArray⟩) H
theorem apy{X:Cx}:OpR X (binaryOp .Mult) av8:=by
 intro aA s σ H x y v u Q I rx ry ⟨z,k,ex,ey,k1,k2,hz,q⟩
 subst ex ey;obtain⟨t,rfl⟩:=rx;obtain⟨t',rfl⟩:=ry;refine P.mul_str (by rw[ar (by omega),ar (by omega)];rfl) (λh1 h2=>?_) (λ_ _=>?_) ?_
 .have hs:=fO;have hx:z.length<=sizeLine:=by
   have:1<=k.toNat:=by omega
   exact bE (Nat.le_mul_of_pos_right _ this) hz
  have:(1000000000:Int)<=(2^63-1) / k:=by
   rw[Int.le_ediv_iff_mul_le (by omega)]
   omega
  omega
 .exact ar (Nat.not_lt.mpr hz)
 .split
  .rename_i h1;have:k.toNat=0:=by omega
   refine⟨by decide,.str _,H,I.tok _,⟨_,rfl⟩,?_⟩
   rw[this]at q;exact q
  .split
   .rename_i h1 h2;rw[cC]at h2;refine⟨.str z,H,I,⟨_,rfl⟩,?_⟩;have e:(⟨((List.replicate k.toNat z.cps.toList).flatten).toArray⟩:Str)=z:=by
     rcases h2 with h2|h2
     .have:k=1:=by simpa using h2
      subst this;simp
     .have h0:z.length=0:=by simpa using h2
      have:z.cps.toList=[]:=dG.mp (by rw[cR];exact h0)
      rw[this];obtain⟨c⟩:=z;have:c = #[]:=by simpa using this
      subst this;simp
    rw[e]at q;exact q
   .have e:(⟨(List.replicate k.toNat z.cps).foldl (·++·) #[]⟩:Str)=⟨((List.replicate k.toNat z.cps.toList).flatten).toArray⟩:=by rw[acx];simp
    rw[e];refine⟨?_,.str _,H,I.tok _,⟨_,rfl⟩,q⟩;show((List.replicate k.toNat z.cps.toList).flatten).toArray.size<=_;have hl:((List.replicate k.toNat z.cps.toList).flatten).toArray.size=z.length*k.toNat:=by
     rw[aw,al1];exact eC _ _
    omega
def ayq(i j:Int):Prop:=i.natAbs<2^1000/\j.natAbs<2^1000
theorem apz{X:Cx}:OpR X (binaryOp .Mult) (rI ayq λi j=>.int (i*j)):=opI λ_ _ _ _ _ _ _ hc q=>P.mul_int q (IntMulOk.of_le (intBits_le_iff.mpr hc.1) (intBits_le_iff.mpr hc.2) (by omega))
end L2
namespace MI
open L2 TPM
open Classical in
def ab5(x y:D)(h:Hd):R D:=match x,y with
 |.str z,.int k=>if (-1000000<=k/\k<=1000000)/\z.length*k.toNat<=LINE then .ok (.str ⟨((List.replicate k.toNat z.cps.toList).flatten).toArray⟩) h else .no
 |.int i,.int j=>if ayq i j then .ok (.int (i*j)) h else ae0 (.int i) (.int j) h
 |x,y=>ae0 x y h
theorem al2{K:Fg}:a01 K ab5 (λx y H Q=>((((rI CMul (λi j=>.int (i*j)) x y H Q\/aqv x y H Q)\/ag9 K x y H Q)\/akm K x y H Q)\/rI ayq (λi j=>.int (i*j)) x y H Q)\/av8 x y H Q):=by
 intro E U H h x y dx dy Q rx ry hr o
 cases rx with
 |str z =>
  cases ry with
  |int k =>
   simp only[ab5]at o
   split at o
   .rename_i hc;exact .inr ⟨z,k,rfl,rfl,hc.1.1,hc.1.2,ll hc.2,ans o (.str _) hr⟩
   .exact o.elim
  |_=>exact o.elim
 |int i =>
  cases ry with
  |int j =>
   simp only[ab5]at o
   split at o
   .rename_i hc;exact .inl (.inr ⟨i,j,rfl,rfl,hc,ans o (.int _) hr⟩)
   .exact .inl (.inl (a0t _ _ _ _ _ _ _ _ _ (.int i) (.int j) hr o))
  |_=>exact o.elim
 |@tup a vs xs ha rs=>exact .inl (.inl (a0t _ _ _ _ _ _ _ _ _ (.tup ha rs) ry hr o))
 |ref e=>exact .inl (.inl (a0t _ _ _ _ _ _ _ _ _ (.ref e) ry hr o))
 |_=>first|exact o.elim|exact .inl (.inl (a0t _ _ _ _ _ _ _ _ _ (by assumption) ry hr o))
theorem aq0{X:Cx}{E:XD}{a b:Expr}{fa fb:SE}{pos:Pos}(ha:ME X E a fa)(hb:ME X E b fb):ME X E (.BinOp a .Mult b pos) (s2 ab5 fa fb):=a90 (((((aen.or am2).or aga).or agn).or apz).or apy) al2 ha hb
open Classical in
theorem av9{l:List Nat}{k:Nat}{h:Hd}(hk:k<=1000)(hl:l.length<=1000):ab5 (.str (S l)) (.int (k:Nat)) h=.ok (.str (S (List.replicate k l).flatten)) h:=by
 have:ab5 (.str (S l)) (.int (k:Nat)) h=if (-1000000<=(k:Int)/\(k:Int)<=1000000)/\(S l).length*(k:Int).toNat<=LINE then .ok (.str ⟨((List.replicate (k:Int).toNat (S l).cps.toList).flatten).toArray⟩) h else .no:=rfl
 have hz:(S l).length*(k:Int).toNat<=LINE:=by
  rw[a4y,eN];exact bx (bE (Nat.mul_le_mul hl hk) (by omega))
 rw[this,av ⟨by omega,hz⟩,eN]
end MI
namespace K16
open L2 MI
noncomputable def a06:Str->Option Bool:=λc=>if c = "NoBook" then some true else if c = "TooHeavy" then some true else none
noncomputable def a2e:Str->Option Bool:=λc=>if c = "NoBook" then some false else if c = "TooHeavy" then some true else none
noncomputable def a5f:Str->Option Bool:=λc=>if c = "NoBook" then some true else if c = "TooHeavy" then some false else none
noncomputable def jq:Str->Option Bool:=λc=>if c = "NoBook" then some false else if c = "TooHeavy" then some false else none
noncomputable def yw:Str->Bool:=λc=>decide (c = "NoBook") || decide (c = "TooHeavy")
def a0o(gj:SF):SS :=
 (jf (s2 gGt (sA (gm false 3 gj) (aj (sV 0) (aj (sI 5) (aj (sI 24) aq)))) (sI 0)))
def p6(je:SF)(qt:SF)(gj:SF):SS :=
 (gh (j5 5 (sA (gm false 3 gj) (aj (sV 4) (aj (s2 a3h (sV 1) (sI 1)) (aj (s2 a3h (sV 2) (sV 3)) aq)))))
 (gh (sIf (sT (s2 hEq (sV 5) (sI 0)))
 (jf (sI 0))
 sNx)
 (abz 3 a1h (sV 5))))
def v6(je:SF)(qt:SF)(gj:SF):SS :=
 (gh (sIf (sOr (sT (s2 gLt (sV 1) (sI 1))) (sOr (sT (s2 gLt (sV 2) (sI 1))) (a0g (a0b (sA (gm false 1 qt) (aj (sV 0) aq))))))
 (jf (sI 0))
 sNx)
 (gh (j5 3 (sI 1))
 (gh (adq (sIt (sA (gm false 1 je) (aj (sV 0) aq))) (kN 4) (p6 je qt gj))
 (jf (sV 3)))))
def a1n(uf:SF)(gw:SF)(gq:SF):SS :=
 (gh (sIf (sOr (a0g (a0b (sA (gm false 3 gw) (aj (sV 0) (aj (sI 2) (aj (sI 4) aq)))))) (a0g (a0b (sA m5 (aj (s2 gIx (sV 0) (sI 0)) (aj (sC (.ty "str")) aq))))))
 (jf (sC (.bl false)))
 sNx)
 (gh (sIf (sT (s2 hEq (s2 gIx (sV 0) (sI 0)) (sC (.str "one"))))
 (jf (qx (s2 hEq (sA kj (aj (sV 0) aq)) (sI 2)) (sA (gm false 1 gq) (aj (s2 gIx (sV 0) (sI 1)) aq))))
 sNx)
 (gh (sIf (sT (s2 hEq (s2 gIx (sV 0) (sI 0)) (sC (.str "row"))))
 (jf (qx (s2 hEq (sA kj (aj (sV 0) aq)) (sI 2)) (sA (gm false 3 gw) (aj (s2 gIx (sV 0) (sI 1)) (aj (sI 0) (aj (sI 6) aq))))))
 sNx)
 (gh (sIf (sT (s2 hEq (s2 gIx (sV 0) (sI 0)) (sC (.str "either"))))
 (jf (qx (s2 hEq (sA kj (aj (sV 0) aq)) (sI 2)) (sA (gm false 3 gw) (aj (s2 gIx (sV 0) (sI 1)) (aj (sI 1) (aj (sI 6) aq))))))
 sNx)
 (gh (sIf (sT (s2 hEq (s2 gIx (sV 0) (sI 0)) (sC (.str "many"))))
 (jf (s2 hEq (sA kj (aj (sV 0) aq)) (sI 2)))
 sNx)
 (jf (qx (s2 hEq (s2 gIx (sV 0) (sI 0)) (sC (.str "times"))) (qx (s2 hEq (sA kj (aj (sV 0) aq)) (sI 4)) (sA (gm false 2 uf) (aj (s2 gIx (sV 0) (sI 2)) (aj (s2 gIx (sV 0) (sI 3)) aq)))))))))))
def zm(jg:SF):SS :=
 (jf (qx (sA (gm false 3 jg) (aj (sV 1) (aj (sI 0) (aj (sI 4) aq)))) (sA (gm false 3 jg) (aj (sV 0) (aj (sI 0) (aj (sV 1) aq))))))
def a6a:SS :=
 (gh (sIf (sT (s2 hEq (s2 gIx (sV 0) (sI 0)) (sC (.str "one"))))
 (jf (sA dj aq))
 sNx)
 (gh (sIf (sOr (sT (s2 hEq (s2 gIx (sV 0) (sI 0)) (sC (.str "row")))) (sT (s2 hEq (s2 gIx (sV 0) (sI 0)) (sC (.str "either")))))
 (jf (s2 gIx (sV 0) (sI 1)))
 sNx)
 (jf (sA dj (aj (s2 gIx (sV 0) (sI 1)) aq)))))
def a2y(je:SF)(jr:SF):SE :=
 (sA (gm false 1 jr) (aj (sV 0) aq))
def a2f(je:SF)(jr:SF):SS :=
 (gh (sIf (sT (s2 hEq (s2 gIx (sV 0) (sI 0)) (sC (.str "one"))))
 (jf (sI 1))
 sNx)
 (gh (j5 1 (sA a71 (aj (sZ (mj (sIt (sA (gm false 1 je) (aj (sV 0) aq))) t1 (a2y je jr) [])) aq)))
 (gh (sIf (sT (s2 hEq (s2 gIx (sV 0) (sI 0)) (sC (.str "times"))))
 (jf (s2 yq (s2 gIx (sV 0) (sI 3)) (sV 1)))
 sNx)
 (jf (sV 1)))))
def yx(je:SF)(ie:SF):SS :=
 (a4g (sML agd (sV 1) (aj (sA (gm false 1 ie) (aj (sV 2) aq)) aq)))
def a0p(je:SF)(ie:SF):SS :=
 (gh (j5 1 (sA ye (aj (sV 0) aq)))
 (gh (adq (sIt (sA (gm false 1 je) (aj (sV 0) aq))) (kN 2) (yx je ie))
 (jf (sA u5 (aj (sV 1) aq)))))
def zp(gq:SF):SS :=
 (jf (sA (gm false 1 gq) (aj (sV 0) aq)))
def a1o:SE :=
 (s2 (gIn false) (sV 0) (sV 1))
def a1p:SS :=
 (jf (qx (sA m5 (aj (sV 1) (aj (sC (.ty "str")) aq))) (sA aia (aj (sZ (mj (sIt (sV 1)) t1 a1o [0])) aq))))
def p7(n8:SF)(jr:SF):SE :=
 (sA (gm false 1 jr) (aj (sV 1) aq))
def o7(n8:SF)(jr:SF):SS :=
 (gh (sIf (a0g (a0b (sA (gm false 1 n8) (aj (sV 0) aq))))
 (a9j "NoBook" (aj (sC (.str "no book")) aq))
 sNx)
 (gh (afr (sV 0) (ai6 2 (a2s (kN 1) (a2s (kN 2) ajc))))
 (gh (sIf (sT (s2 gGt (sA a71 (aj (sZ (mj (sIt (sV 2)) (tN 2) (p7 n8 jr) [])) aq)) (sI 10)))
 (a9j "TooHeavy" (aj (sC (.str "the book weighs too much")) aq))
 sNx)
 (jf (sV 0)))))
def a1q(gw:SF)(n6:SF)(jm:SF):SE :=
 (sA (gm false 2 n6) (aj (sV 1) (aj (sV 0) aq)))
def a1r(gw:SF)(n6:SF)(jm:SF):SE :=
 (sV 0)
def a1s(gw:SF)(n6:SF)(jm:SF):SS :=
 (gh (sIf (sOr (a0g (a0b (sA (gm false 3 gw) (aj (sV 0) (aj (sI 2) (aj (sI 2) aq)))))) (sOr (a0g (a0b (sA (gm false 1 jm) (aj (s2 gIx (sV 0) (sI 0)) aq)))) (a0g (a0b (sA (gm false 3 gw) (aj (s2 gIx (sV 0) (sI 1)) (aj (sI 0) (aj (sI 6) aq))))))))
 (jf (sC (.bl false)))
 sNx)
 (gh (afr (sV 0) (ai6 2 (a2s (kN 1) (a2s (kN 2) ajc))))
 (gh (sIf (a0g (a0b (sA aia (aj (sZ (mj (sIt (sV 2)) t1 (a1q gw n6 jm) [1])) aq))))
 (jf (sC (.bl false)))
 sNx)
 (jf (s2 hEq (aks (sIt (sV 2)) (tN 2) (a1r gw n6 jm) []) (sA kj (aj (sV 2) aq)))))))
def a07(mz:SF)(gw:SF)(jx:SF)(m7:SF)(ie:SF):SE :=
 (sA (gm false 2 m7) (aj (sV 1) (aj (s2 gIx (sV 0) (sI 1)) aq)))
def a08(mz:SF)(gw:SF)(jx:SF)(m7:SF)(ie:SF):ST :=
 (sT (s2 hEq (s2 gIx (sV 0) (sI 0)) (sC (.str "one"))))
def a1t(mz:SF)(gw:SF)(jx:SF)(m7:SF)(ie:SF):SS :=
 (gh (sIf (sOr (a0g (a0b (sA (gm false 3 gw) (aj (sV 1) (aj (sI 2) (aj (sI 2) aq)))))) (sOr (a0g (a0b (sA (gm false 1 mz) (aj (s2 gIx (sV 1) (sI 0)) aq)))) (a0g (a0b (sA (gm false 1 jx) (aj (s2 gIx (sV 1) (sI 1)) aq))))))
 (jf (sC (.bl false)))
 sNx)
 (jf (sA aia (aj (sZ (a1g (sIt (sA (gm false 1 ie) (aj (s2 gIx (sV 1) (sI 1)) aq))) t1 (a08 mz gw jx m7 ie) (a07 mz gw jx m7 ie) [0])) aq))))
def a1u:SE :=
 (sCh gLe gLe (sC (.str "a")) (sV 0) (sC (.str "z")))
def a1v:SS :=
 (gh (sIf (sOr (a0g (a0b (sA m5 (aj (sV 0) (aj (sC (.ty "str")) aq))))) (a0g (sT (sCh gLe gLe (sI 1) (sA kj (aj (sV 0) aq)) (sI 8)))))
 (jf (sC (.bl false)))
 sNx)
 (jf (sA aia (aj (sZ (mj (sIt (sV 0)) t1 a1u [])) aq))))
def xx:SS :=
 (sIf (sOr (a0g (a0b (sA m5 (aj (sV 1) (aj (sC (.ty "int")) aq))))) (a0b (sA m5 (aj (sV 1) (aj (sC (.ty "bool")) aq)))))
 (jf (sC (.bl false)))
 sNx)
def a1w:SS :=
 (gh (sIf (a0g (a0b (sA m5 (aj (sV 0) (aj (sC (.ty "tuple")) aq)))))
 aww
 sNx)
 (gh (adq (sIt (sV 0)) (kN 1) xx)
 (jf (sC (.bl true)))))
def wu:SE :=
 (sV 0)
def jw:ST :=
 (sOr (sT (s2 (gIn false) (s2 gIx (sV 1) (sV 0)) (vm (sV 1) oN (oS (sV 0))))) (sT (s2 (gIn true) (s2 gIx (sV 1) (sV 0)) (sV 2))))
def u9:SS :=
 (gh (sIf (sOr (a0g (a0b (sA m5 (aj (sV 0) (aj (sC (.ty "str")) aq))))) (a0g (sT (sCh gLe gLe (sI 1) (sA kj (aj (sV 0) aq)) (sI 6)))))
 (jf (sC (.bl false)))
 sNx)
 (jf (s2 (aa5 false) (sZ (a1g (sRg a02 (aj (sA kj (aj (sV 0) aq)) aq)) t1 jw wu [0,1])) (sZ (sA ye aq)))))
def p8(c7:SF)(bu:SF)(m8:SF):SE :=
 (sA (gm false 3 c7) (aj (sV 0) (aj (sV 1) (aj (s2 a3h (sV 2) (sI 1)) aq))))
def v7(c7:SF)(bu:SF)(m8:SF):SS :=
 (gh (sIf (sOr (a0g (a0b (sA m5 (aj (sV 0) (aj (sC (.ty "tuple")) aq))))) (sOr (sT (s2 gLt (sA kj (aj (sV 0) aq)) (sI 2))) (sOr (sT (s2 hEq (sV 2) (sI 0))) (a0g (a0b (sA m5 (aj (s2 gIx (sV 0) (sI 0)) (aj (sC (.ty "str")) aq))))))))
 (jf (sI 0))
 sNx)
 (gh (sIf (sT (s2 hEq (s2 gIx (sV 0) (sI 0)) (sC (.str "one"))))
 (jf (sA ajk (aj (qx (s2 hEq (sA kj (aj (sV 0) aq)) (sI 2)) (sA (gm false 2 bu) (aj (s2 gIx (sV 0) (sI 1)) (aj (sV 1) aq)))) aq)))
 sNx)
 (gh (j5 3 (sZ (sA ye aq)))
 (gh (sIf (yp (sT (s2 (gIn false) (s2 gIx (sV 0) (sI 0)) (sA dj (aj (sC (.str "row")) (aj (sC (.str "either")) aq))))) (yp (sT (s2 hEq (sA kj (aj (sV 0) aq)) (sI 2))) (yp (a0b (sA m5 (aj (s2 gIx (sV 0) (sI 1)) (aj (sC (.ty "tuple")) aq)))) (sT (s2 gLe (sA kj (aj (s2 gIx (sV 0) (sI 1)) aq)) (sI 6))))))
 (gh (sIf (sT (s2 av0 (sV 0) (sA dj (aj (sC (.str "row")) (aj (sA dj aq) aq)))))
 (jf (sI 1))
 sNx)
 (j5 3 (sZ (sA a2j (aj (s2 gIx (sV 0) (sI 1)) aq)))))
 (sIf (yp (sT (s2 hEq (s2 gIx (sV 0) (sI 0)) (sC (.str "many")))) (sT (s2 hEq (sA kj (aj (sV 0) aq)) (sI 2))))
 (j5 3 (sZ (sA ye (aj (s2 gIx (sV 0) (sI 1)) aq))))
 (sIf (yp (sT (s2 hEq (s2 gIx (sV 0) (sI 0)) (sC (.str "times")))) (yp (sT (s2 hEq (sA kj (aj (sV 0) aq)) (sI 4))) (yp (a0b (sA (gm false 1 m8) (aj (vm (sV 0) (oS (sI 2)) oN) aq))) (sT (apt gLe gLe gLe (sI 0) (s2 gIx (sV 0) (sI 2)) (s2 gIx (sV 0) (sI 3)) (sI 4))))))
 (j5 3 (sZ (sA ye (aj (s2 gIx (sV 0) (sI 1)) aq))))
 sNx)))
 (gh (j5 4 (sZ (mj (sIt (sV 3)) t1 (p8 c7 bu m8) [1,2])))
 (jf (afn (sOr (sT (s2 (aa5 false) (sV 4) (sZ (sA ye aq)))) (sT (s2 (gIn false) (sI 0) (sV 4)))) (sI 0) (s2 dm (sI 1) (sA a71 (aj (sV 4) aq))))))))))
def yg(c7:SF)(bu:SF)(b8:SF):SE :=
 (sV 0)
def ph(c7:SF)(bu:SF)(b8:SF):ST :=
 (sT (s2 (gIn true) (sV 0) (sC (.str "abcdefghijklmnopqrstuvwxyz"))))
def lr(c7:SF)(bu:SF)(b8:SF):SS :=
 (gh (sIf (sOr (a0g (a0b (sA m5 (aj (sV 2) (aj (sC (.ty "tuple")) aq))))) (sOr (sT (s2 hNe (sA kj (aj (sV 2) aq)) (sI 2))) (a0g (a0b (sA m5 (aj (s2 gIx (sV 2) (sI 0)) (aj (sC (.ty "str")) aq)))))))
 (jf (sC (.bl false)))
 sNx)
 (gh (j5 3 (sZ (a1g (sIt (s2 gIx (sV 2) (sI 0))) t1 (ph c7 bu b8) (yg c7 bu b8) [])))
 (gh (sIf (sOr (a0g (sT (sCh gLe gLe (sI 1) (sA kj (aj (s2 gIx (sV 2) (sI 0)) aq)) (sI 8)))) (sOr (sT (s2 (aa5 true) (sV 3) (sZ (sA ye aq)))) (sT (s2 (gIn false) (s2 gIx (sV 2) (sI 0)) (sV 1)))))
 (jf (sC (.bl false)))
 sNx)
 (gh (a4g (sML adt (sV 1) (aj (s2 gIx (sV 2) (sI 0)) aq)))
 (sIf (a0g (sT (sCh gLe gLe (sI 1) (sA (gm false 3 c7) (aj (s2 gIx (sV 2) (sI 1)) (aj (s2 gIx (sV 0) (sI 0)) (aj (sI 5) aq)))) (sI 24))))
 (jf (sC (.bl false)))
 sNx)))))
def v8(c7:SF)(bu:SF)(b8:SF):SS :=
 (gh (sIf (sOr (a0g (a0b (sA m5 (aj (sV 0) (aj (sC (.ty "tuple")) aq))))) (sOr (sT (s2 hNe (sA kj (aj (sV 0) aq)) (sI 2))) (a0g (a0b (sA (gm false 2 bu) (aj (s2 gIx (sV 0) (sI 0)) (aj (sA (gm false 0 b8) aq) aq)))))))
 (jf (sC (.bl false)))
 sNx)
 (gh (sIf (sOr (a0g (a0b (sA m5 (aj (s2 gIx (sV 0) (sI 1)) (aj (sC (.ty "tuple")) aq))))) (sT (s2 gGt (sA kj (aj (s2 gIx (sV 0) (sI 1)) aq)) (sI 6))))
 (jf (sC (.bl false)))
 sNx)
 (gh (j5 1 (sA ye aq))
 (gh (adq (sIt (s2 gIx (sV 0) (sI 1))) (kN 2) (lr c7 bu b8))
 (jf (sC (.bl true)))))))
def a1x(ak:SF):SS :=
 (gh (j5 1 (sA dj (aj (sC .non) (aj (sC (.bl true)) (aj (sI 0) (aj (s1 ai8 (sI 1)) (aj (sC (.str "")) (aj (sC (.str "one")) (aj (sA dj aq) (aj (sA dj (aj (sC (.str "row")) aq)) (aj (sA dj (aj (sC (.str "either")) (aj (sA dj aq) aq))) (aj (sA dj (aj (sC (.str "many")) (aj (sA dj (aj (sC (.str "row")) (aj (sA dj aq) aq))) (aj (sI 1) aq)))) (aj (sA dj (aj (sC (.str "one")) (aj (sC (.str "aa")) aq))) aq)))))))))))))
 (gh (j5 2 (sA dj (aj (sA dj (aj (sC (.str "one")) (aj (sC (.str "")) aq))) (aj (sA dj (aj (sC (.str "one")) (aj (sA dj (aj (sC (.str "a")) aq)) aq))) (aj (sA dj (aj (sC (.str "times")) (aj (sA dj (aj (sC (.str "row")) (aj (sA dj aq) aq))) (aj (sI 3) (aj (sI 2) aq))))) (aj (sA dj (aj (sC (.str "times")) (aj (sA dj (aj (sC (.str "row")) (aj (sA dj aq) aq))) (aj (sI 0) (aj (sI 5) aq))))) (aj (sZ (sA ye (aj (sC (.str "row")) (aj (sA dj aq) aq)))) aq)))))))
 (gh (j5 3 (sA dj (aj (sA dj (aj (sC (.str "times")) (aj (sA dj (aj (sC (.str "row")) (aj (sA dj aq) aq))) (aj (s1 ai8 (sI 1)) (aj (sI 1) aq))))) (aj (sA dj (aj (sC (.str "times")) (aj (sA dj (aj (sC (.str "row")) (aj (sA dj aq) aq))) (aj (sC (.bl false)) (aj (sC (.bl true)) aq))))) (aj (sZ a7s) (aj (sA dj (aj (sC (.str "row")) (aj (sZ (sA ye (aj (sA dj (aj (sC (.str "row")) (aj (sA dj aq) aq))) aq))) aq))) aq))))))
 (gh (j5 4 (sA dj (aj (sA dj (aj (sZ (sA ye aq)) (aj (sC (.str "a")) aq))) (aj (sA dj (aj (sZ a7s) (aj (sA dj (aj (sC (.str "row")) (aj (sA dj aq) aq))) aq))) (aj (sA dj (aj (sA dj (aj (sC (.str "one")) aq)) (aj (sC (.str "a")) aq))) (aj (sA dj (aj (sC .non) (aj (sC (.str "a")) aq))) (aj (sA dj (aj (sC (.str "one")) (aj (sZ a7s) aq))) (aj (sA dj (aj (sC (.str "many")) (aj (sZ a7s) aq))) (aj (sA dj (aj (sC (.str "row")) (aj (sZ a7s) aq))) aq)))))))))
 (gh (j5 5 (s2 dm (s2 dm (s2 dm (s2 dm (sV 1) (sV 2)) (sV 3)) (sV 4)) (sA dj (aj (sA dj (aj (sC (.str "two")) (aj (sA dj (aj (sC (.str "row")) (aj (sA dj aq) aq))) aq))) (aj (sA dj (aj (sC (.str "row")) (aj (s2 aaz (sA dj (aj (sA dj (aj (sC (.str "row")) (aj (sA dj aq) aq))) aq)) (sI 7)) aq))) (aj (sA dj (aj (sC (.str "one")) (aj (sC (.str "abcdefg")) aq))) aq))))))
 (jf (s2 gIx (sV 5) (sA (gm false 2 ak) (aj (sV 0) (aj (sA kj (aj (sV 5) aq)) aq))))))))))
def o8(j7:SF)(au:SF)(ak:SF)(b8:SF):SE :=
 (sV 0)
def lu(j7:SF)(au:SF)(ak:SF)(b8:SF):SS :=
 (gh (j5 3 (sA (gm false 2 ak) (aj (sV 0) (aj (sI 6) aq))))
 (gh (sIf (yp (sT (s2 gGt (sV 3) (sI 0))) (yp (sT (s2 (gIn false) (s2 gIx (sV 1) (sI 0)) (sA dj (aj (sC (.str "row")) (aj (sC (.str "either")) aq))))) (sT (s2 hNe (s2 gIx (sV 1) (sI 1)) (sA dj aq)))))
 (gh (j5 4 (sA (gm false 2 ak) (aj (sV 0) (aj (sA kj (aj (s2 gIx (sV 1) (sI 1)) aq)) aq))))
 (gh (j5 5 (sA (gm false 3 au) (aj (sV 0) (aj (s2 gIx (s2 gIx (sV 1) (sI 1)) (sV 4)) (aj (sV 2) aq)))))
 (jf (sA dj (aj (s2 gIx (sV 1) (sI 0)) (aj (s2 dm (s2 dm (vm (s2 gIx (sV 1) (sI 1)) oN (oS (sV 4))) (sA dj (aj (sV 5) aq))) (vm (s2 gIx (sV 1) (sI 1)) (oS (s2 dm (sV 4) (sI 1))) oN)) aq))))))
 sNx)
 (gh (sIf (yp (sT (s2 gGt (sV 3) (sI 0))) (sT (s2 (gIn false) (s2 gIx (sV 1) (sI 0)) (sA dj (aj (sC (.str "many")) (aj (sC (.str "times")) aq))))))
 (jf (s2 dm (sA dj (aj (s2 gIx (sV 1) (sI 0)) (aj (sA (gm false 3 au) (aj (sV 0) (aj (s2 gIx (sV 1) (sI 1)) (aj (sV 2) aq)))) aq))) (vm (sV 1) (oS (sI 2)) oN)))
 sNx)
 (gh (j5 3 (sA (gm false 2 ak) (aj (sV 0) (aj (sI 5) aq))))
 (gh (sIf (yp (sT (s2 hEq (sV 3) (sI 0))) (sT (s2 hEq (s2 gIx (sV 1) (sI 0)) (sC (.str "one")))))
 (jf (sA dj (aj (sC (.str "one")) (aj (s2 dm (s2 gIx (sV 1) (sI 1)) (s2 gIx (sA (gm false 0 b8) aq) (sA (gm false 2 ak) (aj (sV 0) (aj (sI 95) aq))))) aq))))
 sNx)
 (gh (sIf (sT (s2 hEq (sV 3) (sI 1)))
 (jf (sA dj (aj (sC (.str "many")) (aj (sA dj (aj (sC (.str "many")) (aj (sA dj (aj (sC (.str "many")) (aj (sA dj (aj (sC (.str "many")) (aj (sV 1) aq))) aq))) aq))) aq))))
 sNx)
 (gh (sIf (sT (s2 hEq (sV 3) (sI 2)))
 (jf (sA dj (aj (sC (.str "row")) (aj (sA dj (aj (sV 1) (aj (sV 1) (aj (sA dj (aj (sC (.str "either")) (aj (sA dj (aj (sV 1) (aj (sV 1) aq))) aq))) (aj (sA dj (aj (sC (.str "one")) (aj (sV 2) aq))) (aj (sV 1) (aj (sV 1) aq))))))) aq))))
 sNx)
 (gh (sIf (sT (s2 hEq (sV 3) (sI 3)))
 (jf (mj (sIt (sV 1)) t1 (o8 j7 au ak b8) []))
 sNx)
 (jf (sA (gm false 1 j7) (aj (sV 0) aq)))))))))))
def qp(ak:SF):SS :=
 (gh (j5 3 (sA (gm false 2 ak) (aj (sV 0) (aj (s2 dm (sA kj (aj (sV 2) aq)) (sI 1)) aq))))
 (gh (j5 4 (s2 gIx (sA dj (aj (sC (.str "A")) (aj (sC (.str "1")) (aj (sC (.str " ")) (aj (sC (.str "_")) (aj (sC (.str "z")) (aj (sC (.str "\n")) aq))))))) (sA (gm false 2 ak) (aj (sV 0) (aj (sI 6) aq)))))
 (gh (j5 5 (sA dj (aj (s2 dm (s2 dm (vm (sV 2) oN (oS (sV 3))) (sV 4)) (vm (sV 2) (oS (sV 3)) oN)) (aj (sC (.str "")) (aj (s2 dm (sV 2) (vm (sC (.str "abcdefgh")) oN (oS (s2 a3h (sI 9) (sA kj (aj (sV 2) aq)))))) (aj (sC .non) (aj (s2 gIx (sV 1) (sI 0)) (aj (vm (sV 2) oN (oS (sI 1))) aq))))))))
 (gh (j5 5 (s2 dm (sV 5) (sA dj (aj (sZ (sA ye (aj (sV 2) aq))) (aj (sZ a7s) (aj (sA dj (aj (sV 2) aq)) (aj (sI 7) aq)))))))
 (jf (s2 gIx (sV 5) (sA (gm false 2 ak) (aj (sV 0) (aj (sA kj (aj (sV 5) aq)) aq)))))))))
def o9(di:SF)(au:SF)(ak:SF):SE :=
 (s2 gIx (sV 0) (sI 0))
def oh(di:SF)(au:SF)(ak:SF):SE :=
 (sA dj (aj (s2 ab5 (s2 gIx (sC (.str "abcdefg")) (sV 0)) (sI 8)) (aj (sA dj (aj (sC (.str "row")) (aj (sA dj aq) aq))) aq)))
def ud(di:SF)(au:SF)(ak:SF):SE :=
 (sV 0)
def pq(di:SF)(au:SF)(ak:SF):SS :=
 (gh (sIf (sT (s2 hEq (sV 1) (sA dj aq)))
 (jf (s2 gIx (sA dj (aj (sA dj aq) (aj (sZ (sA ye aq)) (aj (sA dj (aj (sA dj (aj (sC (.str "a")) aq)) aq)) (aj (sC .non) (aj (s2 aaz (sA dj (aj (sA dj (aj (sC (.str "a")) (aj (sA dj (aj (sC (.str "row")) (aj (sA dj aq) aq))) aq))) aq)) (sI 2)) aq)))))) (sA (gm false 2 ak) (aj (sV 0) (aj (sI 5) aq)))))
 sNx)
 (gh (j5 3 (sA (gm false 2 ak) (aj (sV 0) (aj (sA kj (aj (sV 1) aq)) aq))))
 (gh (afr (s2 gIx (sV 1) (sV 3)) (ai6 2 (a2s (kN 4) (a2s (kN 5) ajc))))
 (gh (j5 6 (sA (gm false 2 ak) (aj (sV 0) (aj (sI 10) aq))))
 (gh (sIf (sT (s2 gLt (sV 6) (sI 3)))
 (j5 7 (sA dj (aj (sV 4) (aj (sA (gm false 3 au) (aj (sV 0) (aj (sV 5) (aj (sV 2) aq)))) aq))))
 (sIf (sT (s2 gLt (sV 6) (sI 6)))
 (j5 7 (sA dj (aj (sA (gm false 3 di) (aj (sV 0) (aj (sZ (mj (sIt (sV 1)) t1 (o9 di au ak) [])) (aj (sV 4) aq)))) (aj (sV 5) aq))))
 (sIf (sT (s2 hEq (sV 6) (sI 6)))
 (j5 7 (s2 gIx (sA dj (aj (sA dj (aj (sV 4) aq)) (aj (sA dj (aj (sV 4) (aj (sV 5) (aj (sI 0) aq)))) (aj (sZ (sA ye (aj (sV 4) (aj (sV 5) aq)))) (aj (sA dj (aj (sV 5) (aj (sV 4) aq))) (aj (sV 4) aq)))))) (sA (gm false 2 ak) (aj (sV 0) (aj (sI 5) aq)))))
 (sIf (sT (s2 hEq (sV 6) (sI 7)))
 (jf (s2 dm (sV 1) (sA u5 (aj (sZ (mj (sRg a02 (aj (s2 dm (s2 a3h (sI 7) (sA kj (aj (sV 1) aq))) (sA (gm false 2 ak) (aj (sV 0) (aj (sI 2) aq)))) aq)) t1 (oh di au ak) [])) aq))))
 (sIf (sT (s2 hEq (sV 6) (sI 8)))
 (jf (s2 dm (s2 dm (vm (sV 1) oN (oS (sV 3))) (sA dj (aj (s2 gIx (sV 1) (sV 3)) aq))) (vm (sV 1) (oS (sV 3)) oN)))
 (jf (mj (sIt (sV 1)) t1 (ud di au ak) [])))))))
 (jf (s2 dm (s2 dm (vm (sV 1) oN (oS (sV 3))) (sA dj (aj (sV 7) aq))) (vm (sV 1) (oS (s2 dm (sV 3) (sI 1))) oN))))))))
def my(ak:SF)(b8:SF):SS :=
 (gh (j5 2 (sA (gm false 2 ak) (aj (sV 0) (aj (s2 dm (sA kj (aj (sV 1) aq)) (sI 1)) aq))))
 (gh (j5 3 (s2 gIx (s2 dm (sA (gm false 0 b8) aq) (sC (.str "\t\t\t"))) (sA (gm false 2 ak) (aj (sV 0) (aj (sI 98) aq)))))
 (gh (j5 4 (s2 dm (vm (sV 1) oN (oS (sV 2))) (vm (sV 1) (oS (s2 dm (sV 2) (sI 1))) oN)))
 (gh (j5 5 (sA dj (aj (s2 dm (s2 dm (vm (sV 1) oN (oS (sV 2))) (sV 3)) (vm (sV 1) (oS (sV 2)) oN)) (aj (sV 4) (aj (s2 dm (sV 1) (vm (sV 1) oN (oS (sI 1)))) (aj (sC (.str "")) (aj (sC .non) (aj (sA u5 (aj (sV 1) aq)) aq))))))))
 (gh (j5 5 (s2 dm (sV 5) (sA dj (aj (sZ (sA a2j (aj (sV 1) aq))) (aj (sZ a7s) (aj (sI 7) (aj (sZ (sA ye (aj (sV 1) aq))) aq)))))))
 (jf (s2 gIx (sV 5) (sA (gm false 2 ak) (aj (sV 0) (aj (sA kj (aj (sV 5) aq)) aq))))))))))
def za(ik:SF):SS :=
 (gh (j5 1 (sC .non))
 (gh (j5 2 (sC .non))
 (gh (apn 3 yw
 (j5 1 (sA (a9h 1 ik) (qA (aj (sV 0) aq))))
 (gh (j5 2 (sA dj (aj (aic 3 a5f) (aj (aic 3 a2e) (aj (aic 3 a06) aq)))))
 (j5 2 (s2 dm (sV 2) (sA dj (aj (aic 3 jq) aq))))))
 (jf (sA dj (aj (sV 1) (aj (sV 2) aq)))))))
def xf(j4:SF)(jz:SF)(bc:SF):SE :=
 (sA (gm false 1 bc) (aj (s2 gIx (sV 0) (sI 1)) aq))
def zu(j4:SF)(jz:SF)(bc:SF):SS :=
 (gh (j5 1 (sA ady (aj (sV 0) aq)))
 (gh (afr (sA (gm false 1 jz) (aj (sV 0) aq)) (ai6 2 (a2s (kN 2) (a2s (kN 3) ajc))))
 (gh (sIf (sT (s2 hNe (sA ady (aj (sV 0) aq)) (sV 1)))
 aww
 sNx)
 (gh (sIf (a0g (a0b (sA (gm false 1 j4) (aj (sV 0) aq))))
 (jf (s2 hEq (sV 3) (sA dj (aj (sC (.bl true)) (aj (sC (.bl false)) (aj (sC (.bl true)) (aj (sC (.bl false)) aq)))))))
 sNx)
 (gh (sIf (sT (s2 gGt (sA a71 (aj (sZ (mj (sIt (s2 gIx (sV 0) (sI 1))) t1 (xf j4 jz bc) [])) aq)) (sI 10)))
 (jf (s2 hEq (sV 3) (sA dj (aj (sC (.bl false)) (aj (sC (.bl true)) (aj (sC (.bl true)) (aj (sC (.bl false)) aq)))))))
 sNx)
 (jf (qx (s2 gIs (sV 3) (sC .non)) (s2 hEq (sV 2) (sV 0)))))))))
def agy(j7:SF)(jj:SF)(j8:SF)(ww:SF)(ak:SF)(iu:SF)(nq:SF)(qu:SF):SS :=
 (gh (j5 1 (sA (gm true 1 nq) (aj (sV 0) aq)))
 (gh (j5 2 (sA (gm false 2 ak) (aj (sV 1) (aj (sI 8) aq))))
 (gh (j5 3 (s2 gIx (sA dj (aj (sI 10) (aj (sI 10) (aj (sI 40) aq)))) (sA (gm false 2 ak) (aj (sV 1) (aj (sI 3) aq)))))
 (gh (j5 4 (sA (gm false 3 ww) (aj (sV 1) (aj (sA (gm false 1 qu) (aj (sV 1) aq)) (aj (sV 3) aq)))))
 (gh (j5 5 (sV 4))
 (gh (sIf (sT (s2 gLt (sV 2) (sI 2)))
 (j5 5 (sA dj (aj (sA (gm false 2 j8) (aj (sV 1) (aj (s2 gIx (sV 4) (sI 0)) aq))) (aj (s2 gIx (sV 4) (sI 1)) aq))))
 (sIf (sT (s2 gLt (sV 2) (sI 6)))
 (j5 5 (sA dj (aj (s2 gIx (sV 4) (sI 0)) (aj (sA (gm false 3 jj) (aj (sV 1) (aj (s2 gIx (sV 4) (sI 1)) (aj (s2 gIx (sV 4) (sI 0)) aq)))) aq))))
 (sIf (sT (s2 hEq (sV 2) (sI 6)))
 (gh (j5 6 (sA dj (aj (s2 dm (sV 4) (sA dj (aj (sI 0) aq))) (aj (sZ (sA ye (aj (s2 gIx (sV 4) (sI 0)) (aj (s2 gIx (sV 4) (sI 1)) aq)))) (aj (s2 gIx (sV 4) (sI 0)) (aj (sA dj (aj (s2 gIx (sV 4) (sI 1)) (aj (s2 gIx (sV 4) (sI 0)) aq))) (aj (sA dj (aj (s2 gIx (sV 4) (sI 0)) aq)) aq)))))))
 (j5 5 (s2 gIx (sV 6) (sA (gm false 2 ak) (aj (sV 1) (aj (sI 5) aq))))))
 sNx)))
 (jf (qx (sA (gm false 1 iu) (aj (sV 4) aq)) (qx (sA (gm false 1 iu) (aj (sV 5) aq)) (qx (sA (gm false 1 iu) (aj (sA (gm false 1 j7) (aj (sV 1) aq)) aq)) (sA (gm false 1 iu) (aj (sV 4) aq))))))))))))
end K16
namespace MI
open L2
theorem ava(ha:ME X E a fa)(hb:ME X E b fb)(hp:a7g b:=by with_unfolding_all exact λ_ _=>rfl):ME X E (.Subscript a b pos) (s2 gIx fa fb):=aor ha hb hp
theorem agz(i:Nat)(hN:X.N.Nodup)(he:ME X E e fa)(hi:X.N[i]? = some x:=by rfl)(hx:Loc X.env.scope x:=by with_unfolding_all first|exact Or.inl rfl|exact Or.inr rfl)(hs:swapsWith e (some (.Name x pos')) pos.line X.env=pure false:=by rfl)(hf:Hf X x:=by with_unfolding_all first|exact .inl rfl|exact .inr rfl|assumption) :
  MS X E (.Assign [.Name x pos'] e pos) (j5 i fa):=atc hN hi hx he hs hf
theorem avb{X:Cx}(G:Dn X.prog X.w X.K X.mg X.base k x ps (a0h X.K n F) f fd)(hr:Room k' X.A)(hk:k<=k')(ha:MA X X0 (e::es) ka)(hg:Gl X x:=by rfl)
  (hdb:(x == ("__debug__" : Str))=false:=by decide) (he:starEach (e::es) X.env=(false,eval e X.env)::starEach es X.env:=by rfl) (hpl:(backTo pos (starEach es X.env)).any (·.1)=false:=by rfl):ME X X0 (.Call (.Name x p) (e::es) [] pos) (sA (gm false n F) ka):=ace false G (hr.mono hk) hg ha hdb he hpl
theorem avc(hm:X.mg "len" = none)(ha:MA X E [e] ka)(hg:Gl X "len":=by rfl)(he:starEach [e] X.env=(false,eval e X.env)::starEach [] X.env:=by rfl)(hpl:(backTo pos (starEach [] X.env)).any (·.1)=false:=by rfl):ME X E (.Call (.Name "len" p) [e] [] pos) (sA kj ka) :=
 a93 (L2.CallR.or a8o a8p) aov hg hm afk ha (by decide) (by decide) he hpl
theorem a4v(ho:OpR X (compareOp op) r)(hs:a01 X.K g r)(ha:ME X E a fa)(hb:ME X E b fb)(hm:behindInMarks op b=false:=by exact a4q _):MT X E (.Compare a [op] [b] pos) (sT (s2 g fa fb)):=a7m ho hs ha hb hm
theorem avd(hu:X.A.units+64<cLine)(ha:ME X E a fa)(hb:ME X E b fb):MT X E (.Compare a [.Eq] [b] pos) (sT (s2 hEq fa fb)):=a7m (amn hu) ag1 ha hb (a4q _)
theorem pgn(i:Nat)(hN:N.Nodup:=by decide +kernel)(hi:N[i]? = some x:=by rfl)(hx:∀C fp s H,Loc (cxC X N aB cl C fp s H).env.scope x:=by with_unfolding_all exact λ_ _ _ _=>Or.inl rfl)(hf:∀C fp s H,(cxC X N aB cl C fp s H).fn x=true\/(cxC X N aB cl C fp s H).env.scope.names.lookup x=some .local:=by with_unfolding_all exact λ_ _ _ _=>.inr rfl) :
  ∀C fp s H,PG (cxC X N aB cl C fp s H) (.Name x pos) (a6j i):=λC fp s H=>aa8 (X:=cxC X N aB cl C fp s H) hN hi (hx C fp s H) (hf C fp s H)
theorem pgm(i:Nat)(hN:N.Nodup:=by decide +kernel)(hi:N[i]? = some x:=by rfl)(hx:Loc (cxC X N aB cl C fp s H).env.scope x:=by with_unfolding_all exact Or.inl rfl)(hf:(cxC X N aB cl C fp s H).fn x=true\/(cxC X N aB cl C fp s H).env.scope.names.lookup x=some .local:=by with_unfolding_all exact .inr rfl) :
  PG (cxC X N aB cl C fp s H) (.Name x pos) (a6j i):=aa8 (X:=cxC X N aB cl C fp s H) hN hi hx hf
def allP(P:α->Prop):List α->Prop
 |[]=>True
 |a::l=>P a/\allP P l
theorem allP.mem{P:α->Prop}:∀{l:List α},allP P l->∀a∈l,P a
 |b::l,h,a,m=>by
  rcases aZ.mp m with rfl|m
  .exact h.1
  .exact h.2.mem a m
theorem ae8{X:Cx}(ts fr:List Str)(ix:List Nat)(clos:closureFor aB X.env=pure cl:=by rfl)(kind:aB.kind=.function:=by rfl)
  (nocell:(aB.names.all λp=>p.2 != .cell)=true:=by rfl) (names:(aB.names.all λp=>p.2 != .local || aB.names.lookup p.1 == some .local)=true:=by rfl) (sub:allP (λp=>X.env.cells.lookup p.1=some p.2) cl:=by with_unfolding_all repeat' constructor)
  (has:((relabel aB X.env).names.all λp => !(p.2 == .cell || p.2 == .free) || (cl.lookup p.1).isSome)=true:=by rfl) (nofn:(ts.all λy=>(relabel aB X.env).names.lookup y == some .local)=true:=by rfl)
  (len:ix.length=fr.length:=by rfl) (vis:((fr.zip ix).all λp=>X.N[p.2]? == some p.1 && (X.env.kindOf p.1 == some .cell || X.env.kindOf p.1 == some .free) && ((relabel aB X.env).names.lookup p.1 == some .cell || (relabel aB X.env).names.lookup p.1 == some .free))=true:=by rfl) :
  CSc X aB cl ts fr ix:=.of clos kind nocell names sub.mem has nofn len vis
theorem a6b{aB:Scope}(ts:List Str)(kind:aB.kind=.function:=by rfl)(h:∀y∈aB.names,y.2≠.cell/\y.2≠.free:=by decide +kernel)(names:∀y∈aB.names,y.2=.local->aB.names.lookup y.1=some .local:=by decide +kernel)
  (ht:∀y∈ts,aB.names.lookup y=some .local:=by decide +kernel):CSc X aB [] ts [] []:=.noFree kind h names ht
section
variable{α:Type}{us:List α}
theorem len0{P:List α->Prop}(h:us.length=0)(k:P []):P us:=by cases us with|nil=>exact k|cons _ _=>cases h
theorem ae9{P:List α->Prop}(h:us.length=n+1)(k:∀a vs,vs.length=n->P (a::vs)):P us:=by cases us with|nil=>cases h|cons a vs=>exact k a vs (fY h)
theorem azr{P:List α->Prop}(h:us.length=1)(k:∀a,P [a]):P us:=ae9 h λa _ h=>len0 (P:=λus=>P (a::us)) h (k a)
theorem azs{P:List α->Prop}(h:us.length=2)(k:∀a b,P [a,b]):P us:=ae9 h λa _ h=>azr (P:=λus=>P (a::us)) h (k a)
theorem azt{P:List α->Prop}(h:us.length=3)(k:∀a b c,P [a,b,c]):P us:=ae9 h λa _ h=>azs (P:=λus=>P (a::us)) h (k a)
theorem azu{P:List α->Prop}(h:us.length=4)(k:∀a b c d,P [a,b,c,d]):P us:=ae9 h λa _ h=>azt (P:=λus=>P (a::us)) h (k a)
theorem azv{P:List α->Prop}(h:us.length=5)(k:∀a b c d e,P [a,b,c,d,e]):P us:=ae9 h λa _ h=>azu (P:=λus=>P (a::us)) h (k a)
theorem b0v{P:List α->Prop}(h:us.length=6)(k:∀a b c d e f,P [a,b,c,d,e,f]):P us:=ae9 h λa _ h=>azv (P:=λus=>P (a::us)) h (k a)
end
end MI
namespace K16
open L2 MI
noncomputable def top(i:Nat):Stmt:=PySem.Challenge.pw_nearreach_k16_books_looked_at.main.body.getD i (.Pass ⟨0,0,0,0⟩)
structure Nm (mg:Str->Option Value):Prop where
 ValueError:mg "ValueError" = none
 abs:mg "abs" = none
 all:mg "all" = none
 bool:mg "bool" = none
 int:mg "int" = none
 isinstance:mg "isinstance" = none
 len:mg "len" = none
 list:mg "list" = none
 max:mg "max" = none
 ord:mg "ord" = none
 range:mg "range" = none
 repr:mg "repr" = none
 set:mg "set" = none
 str:mg "str" = none
 sum:mg "sum" = none
 tuple:mg "tuple" = none
structure Cn (mg:Str->Option Value):Prop where
 DEEPEST:∃t,mg "DEEPEST" = some (.int 5 t)
 HEAVIEST:∃t,mg "HEAVIEST" = some (.int 10 t)
 MOST_PARTS:∃t,mg "MOST_PARTS" = some (.int 24 t)
structure Xn (K:Fg) (mg:Str->Option Value) (y_NoBook y_TooHeavy y_ReachError y_NoPlace y_NoShape y_TooMany:Addr):Prop where
 g_NoBook:mg "NoBook" = some (.ref y_NoBook)
 g_TooHeavy:mg "TooHeavy" = some (.ref y_TooHeavy)
 g_ReachError:mg "ReachError" = some (.ref y_ReachError)
 g_NoPlace:mg "NoPlace" = some (.ref y_NoPlace)
 g_NoShape:mg "NoShape" = some (.ref y_NoShape)
 g_TooMany:mg "TooMany" = some (.ref y_TooMany)
 n_NoBook:PySem.W.nsIn K mainGlobals "NoBook" = some (some (.ref y_NoBook))
 c_NoBook:XCls K y_NoBook
 k_NoBook:XKit K y_NoBook
 e_NoBook_ReachError:PySem.W.exmOne K (.ref y_NoBook) (.ref y_ReachError)=some true
 i_NoBook_ValueError:PySem.W.kitOne K (.ref y_NoBook) (.type "ValueError")=some true
 i_NoBook_TooHeavy:PySem.W.kitOne K (.ref y_NoBook) (.ref y_TooHeavy)=some false
 i_NoBook_NoBook:PySem.W.kitOne K (.ref y_NoBook) (.ref y_NoBook)=some true
 i_NoBook_NoPlace_NoShape_TooMany:PySem.W.kitAny K (.ref y_NoBook) [.ref y_NoPlace,.ref y_NoShape,.ref y_TooMany]=some false
 n_TooHeavy:PySem.W.nsIn K mainGlobals "TooHeavy" = some (some (.ref y_TooHeavy))
 c_TooHeavy:XCls K y_TooHeavy
 k_TooHeavy:XKit K y_TooHeavy
 e_TooHeavy_ReachError:PySem.W.exmOne K (.ref y_TooHeavy) (.ref y_ReachError)=some true
 i_TooHeavy_ValueError:PySem.W.kitOne K (.ref y_TooHeavy) (.type "ValueError")=some true
 i_TooHeavy_TooHeavy:PySem.W.kitOne K (.ref y_TooHeavy) (.ref y_TooHeavy)=some true
 i_TooHeavy_NoBook:PySem.W.kitOne K (.ref y_TooHeavy) (.ref y_NoBook)=some false
 i_TooHeavy_NoPlace_NoShape_TooMany:PySem.W.kitAny K (.ref y_TooHeavy) [.ref y_NoPlace,.ref y_NoShape,.ref y_TooMany]=some false
section
variable{K:Fg}{mg:Str->Option Value}{y_NoBook y_TooHeavy y_ReachError y_NoPlace y_NoShape y_TooMany:Addr}
theorem a2m(Z:Xn K mg y_NoBook y_TooHeavy y_ReachError y_NoPlace y_NoShape y_TooMany):∀c,yw c=true->∃C,mg c=some (.ref C)/\PySem.W.nsIn K mainGlobals c=some (some (.ref C))/\PySem.W.exmOne K (.ref C) (.ref y_ReachError)=some true:=by
 intro c h
 simp only[yw,cC,aW]at h
 rcases h with rfl|rfl
 .exact⟨_,Z.g_NoBook,Z.n_NoBook,Z.e_NoBook_ReachError⟩
 .exact⟨_,Z.g_TooHeavy,Z.n_TooHeavy,Z.e_TooHeavy_ReachError⟩
theorem a3v(Z:Xn K mg y_NoBook y_TooHeavy y_ReachError y_NoPlace y_NoShape y_TooMany):∀c b C,a06 c=some b->PySem.W.nsIn K mainGlobals c=some (some (.ref C))->XKit K C/\PySem.W.kitOne K (.ref C) (.type "ValueError")=some b:=by
 intro c b C h q
 unfold a06 at h
 by_cases e_NoBook:c = "NoBook"
 .subst e_NoBook;rw[av rfl]at h;cases h;cases Z.n_NoBook.symm.trans q;exact⟨Z.k_NoBook,Z.i_NoBook_ValueError⟩
 rw[aO e_NoBook]at h
 by_cases e_TooHeavy:c = "TooHeavy"
 .subst e_TooHeavy;rw[av rfl]at h;cases h;cases Z.n_TooHeavy.symm.trans q;exact⟨Z.k_TooHeavy,Z.i_TooHeavy_ValueError⟩
 rw[aO e_TooHeavy]at h;cases h
theorem a6c(Z:Xn K mg y_NoBook y_TooHeavy y_ReachError y_NoPlace y_NoShape y_TooMany):∀c b C,a2e c=some b->PySem.W.nsIn K mainGlobals c=some (some (.ref C))->XKit K C/\PySem.W.kitOne K (.ref C) (.ref y_TooHeavy)=some b:=by
 intro c b C h q
 unfold a2e at h
 by_cases e_NoBook:c = "NoBook"
 .subst e_NoBook;rw[av rfl]at h;cases h;cases Z.n_NoBook.symm.trans q;exact⟨Z.k_NoBook,Z.i_NoBook_TooHeavy⟩
 rw[aO e_NoBook]at h
 by_cases e_TooHeavy:c = "TooHeavy"
 .subst e_TooHeavy;rw[av rfl]at h;cases h;cases Z.n_TooHeavy.symm.trans q;exact⟨Z.k_TooHeavy,Z.i_TooHeavy_TooHeavy⟩
 rw[aO e_TooHeavy]at h;cases h
theorem a9r(Z:Xn K mg y_NoBook y_TooHeavy y_ReachError y_NoPlace y_NoShape y_TooMany):∀c b C,a5f c=some b->PySem.W.nsIn K mainGlobals c=some (some (.ref C))->XKit K C/\PySem.W.kitOne K (.ref C) (.ref y_NoBook)=some b:=by
 intro c b C h q
 unfold a5f at h
 by_cases e_NoBook:c = "NoBook"
 .subst e_NoBook;rw[av rfl]at h;cases h;cases Z.n_NoBook.symm.trans q;exact⟨Z.k_NoBook,Z.i_NoBook_NoBook⟩
 rw[aO e_NoBook]at h
 by_cases e_TooHeavy:c = "TooHeavy"
 .subst e_TooHeavy;rw[av rfl]at h;cases h;cases Z.n_TooHeavy.symm.trans q;exact⟨Z.k_TooHeavy,Z.i_TooHeavy_NoBook⟩
 rw[aO e_TooHeavy]at h;cases h
theorem qw(Z:Xn K mg y_NoBook y_TooHeavy y_ReachError y_NoPlace y_NoShape y_TooMany):∀c b C,jq c=some b->PySem.W.nsIn K mainGlobals c=some (some (.ref C))->XKit K C/\PySem.W.kitAny K (.ref C) ([y_NoPlace,y_NoShape,y_TooMany].map Value.ref)=some b:=by
 intro c b C h q
 unfold jq at h
 by_cases e_NoBook:c = "NoBook"
 .subst e_NoBook;rw[av rfl]at h;cases h;cases Z.n_NoBook.symm.trans q;exact⟨Z.k_NoBook,Z.i_NoBook_NoPlace_NoShape_TooMany⟩
 rw[aO e_NoBook]at h
 by_cases e_TooHeavy:c = "TooHeavy"
 .subst e_TooHeavy;rw[av rfl]at h;cases h;cases Z.n_TooHeavy.symm.trans q;exact⟨Z.k_TooHeavy,Z.i_TooHeavy_NoPlace_NoShape_TooMany⟩
 rw[aO e_TooHeavy]at h;cases h
end
section
variable{P:Program}{w:World}{K:Fg}{mg:Str->Option Value}{base:Heap}{f:Addr}
def MD(P:Program)(w:World)(K:Fg)(mg:Str->Option Value)(base:Heap)(f:Addr)(k:Nat)(N ps:List Str)(x:Str)(t:Stmt)(b:SS):Prop:=FnScope N ps (ig t)/\∀(cdv:Value) (A:Around) (outer:List Env) (s:Shared) (H:Hp) (E:XK),Room k (A.deeper (PyProof.Rows.envOfC x (ig t) s.heap.objs.size f cdv))->MSs (aex CX0 P w K mg base N x (ig t) f cdv A outer s H E).nox X0 (uq t) b
theorem md{N ps:List Str}{x:Str}{t:Stmt}{b:SS}(S:FnScope N ps (ig t))(h:FnScope N ps (ig t)->∀(cdv:Value) (A:Around) (outer:List Env) (s:Shared) (H:Hp) (E:XK),Room k (A.deeper (PyProof.Rows.envOfC x (ig t) s.heap.objs.size f cdv))->MSs (aex CX0 P w K mg base N x (ig t) f cdv A outer s H E).nox X0 (uq t) b):MD P w K mg base f k N ps x t b:=⟨S,h S⟩
local macro_rules|`(tactic|walk_at "sc") => `(tactic|exact⟨rfl,rfl,rfl,by decide +kernel,rfl,by decide +kernel,by decide +kernel⟩)
def Dk(P:Program)(w:World)(K:Fg)(mg:Str->Option Value)(base:Heap)(k:Nat)(x:Str)(ps:List Str)(F:SF):Prop:=∃a d j,Dn P w K mg base j x ps (a0h K ps.length F) a d/\j<=k
theorem dk{x:Str}{ps:List Str}{F:SF}{a:Addr}{d:FuncData}{j k:Nat}(D:Dn P w K mg base j x ps (a0h K ps.length F) a d)(h:j<=k:=by decide):Dk P w K mg base k x ps F:=⟨a,d,j,D,h⟩
theorem ayr{X:Cx}{x:Str}{ps:List Str}{F:SF}{k n:Nat}{e:Expr}{es:List Expr}{ka:SA}{p pos:Pos}(G:Dk X.prog X.w X.K X.mg X.base k x ps F)(hr:Room k X.A)(ha:MA X X0 (e::es) ka)(hn:n=ps.length:=by rfl)(hg:Gl X x:=by rfl)(hdb:(x == ("__debug__" : Str))=false:=by decide)(he:starEach (e::es) X.env=(false,eval e X.env)::starEach es X.env:=by rfl)(hpl:(backTo pos (starEach es X.env)).any (·.1)=false:=by rfl):ME X X0 (.Call (.Name x p) (e::es) [] pos) (sA (gm false n F) ka):=by
 subst hn;obtain⟨_,_,_,D,h⟩:=G;exact avb D hr h ha hg hdb he hpl
set_option hygiene false
local macro_rules|`(tactic|walk_at "m") => `(tactic|refine md ⟨rfl,rfl,rfl,by decide +kernel,rfl,by decide +kernel,by decide +kernel⟩ ?_;intro SC cdv A outer s H E hr)
local macro_rules|`(tactic|rfl) => `(tactic|with_unfolding_all exact Eq.refl _)
local macro_rules|`(tactic|exists $e) => `(tactic|with_unfolding_all exact $e)
local macro_rules|`(tactic|ac_rfl) => `(tactic|with_unfolding_all assumption)
local macro_rules|`(tactic|walk_at "d") => `(tactic|with_reducible repeat' first
 |(show PE _ _ _;first|refine b0q ?_|(show PE _ (.Name _ _) _;first|exact asw _|exact aj8 (by rfl) (by exists M.str) asq|exact aj8 (by rfl) (by exists M.tuple) abt|exact aj8 (by rfl) (by exists M.int) am6|exact aj8 (by rfl) (by exists M.bool) ap5|exact aak (by rfl) (by exists C.DEEPEST.choose_spec)|exact aak (by rfl) (by exists C.MOST_PARTS.choose_spec)|exact aak (by rfl) (by exists C.HEAVIEST.choose_spec))|(show PE _ (.Constant _ _ _) _;first|exact asx|exact asy|exact ay2|exact afm)|(show PE _ (.Call _ _ _ _) _;first|refine ayr (by ac_rfl) (by exists hr) ?_|refine avb (by ac_rfl) (by exists hr) (by ac_rfl) ?_|refine avc (by exists M.len) ?_|refine a93 (L2.CallR.or aab a9g) ak5 (by rfl) (by exists M.isinstance) ju ?_|refine a93 (adn (by rfl)) ap3 (by rfl) (by exists M.sum) au8 ?_|refine a93 (aac (by rfl)) ap2 (by rfl) (by exists M.all) asu ?_|refine aan (L2.CallR.or a7i (a8t (by rfl))) afz (by rfl) (by exists M.tuple) abt ?_|refine akc false (by ac_rfl) (by exists hr.mono (by assumption)) (by rfl) ?_|refine aan aet aox (by rfl) (by exists M.int) am6 ?_|refine aan (L2.CallR.or a8q (aad (by rfl))) ajm (by rfl) (by exists M.list) aoa ?_|refine a93 (agg (by exists hr.gd) (by exists hr.u)) ak4 (by rfl) (by exists M.repr) aph ?_|refine a93 aiu aoy (by rfl) (by exists M.ord) asr ?_|refine apu (by rfl) (by exists M.len) (by rfl) (a6b ["name","shape"]) ?_ (λ_ _ _ _=>(aej (by rfl) (a3g (pgm _) (a3g (pgm _) aa9)))) amd (λ_ _ _ _=>?_)|refine a93 ait aow (by rfl) (by exists M.abs) asv ?_|refine a93 (aes (by rfl)) ajj (by rfl) (by exists M.max) au7 ?_|exact a73 (by rfl) (by exists M.isinstance) ju (by rfl) (by exists Or.inl rfl) (zb (v:=.ref y_NoBook) (by rfl) Z.g_NoBook (by rfl)) (.inl ⟨_,rfl,rfl⟩) (a9r Z)|exact a73 (by rfl) (by exists M.isinstance) ju (by rfl) (by exists Or.inl rfl) (zb (v:=.ref y_TooHeavy) (by rfl) Z.g_TooHeavy (by rfl)) (.inl ⟨_,rfl,rfl⟩) (a6c Z)|exact a73 (by rfl) (by exists M.isinstance) ju (by rfl) (by exists Or.inl rfl) (aa7 (v:=.ty "ValueError") (by rfl) (by exists M.ValueError) PyProof.Rows.Boot.«ValueError» (by rfl)) (.inr ⟨_,rfl,rfl⟩) (a3v Z)|exact agl (cs:=[y_NoPlace,y_NoShape,y_TooMany]) (by rfl) (by exists M.isinstance) ju (by rfl) (by exists Or.inl rfl) (uo (zb (v:=.ref y_NoPlace) (by rfl) Z.g_NoPlace (by rfl)) (uo (zb (v:=.ref y_NoShape) (by rfl) Z.g_NoShape (by rfl)) (uo (zb (v:=.ref y_TooMany) (by rfl) Z.g_TooMany (by rfl)) a4s))) (λ_ _ _ q=>q) (a7l (by simp)) (qw Z)|refine ace true (by ac_rfl) (by exists hr.mono (by assumption)) (by rfl) ?_)|(show PE _ (.Subscript _ _ _) _;first|refine ava ?_ ?_|refine ag7 ?_ ?_ ?_)|refine aby ?_|(show PE _ (.BinOp _ _ _ _) _;first|refine agc ?_ ?_|refine atp ?_ ?_|refine atq ?_ ?_|refine apf ?_ ?_|refine atu ?_ ?_|refine atr ?_ ?_|refine aps ?_ ?_|refine aq0 ?_ ?_)|(show PE _ (.BoolOp _ _ _) _;first|refine at7 ?_ ?_|refine at6 ?_)|refine ata ?_|(show PE _ (.Compare _ _ _ _) _;first|refine a2r (amn (by exists hr.u)) ag1 ?_ ?_ (a4q _)|refine aj9 (a8d.or xg) (a8d.or xg) a4u a4u ?_ ?_ ?_|refine a2r (amo (by exists hr.u)) ag2 ?_ ?_ (a4q _)|refine a2r as5 amg ?_ ?_ (a4q _)|refine a2r (afl.or a8m) afw ?_ ?_ (by with_unfolding_all rfl)|refine a2r (as4.or a8e) amf ?_ ?_ (a4q _)|refine a2r (amy (by exists hr.u)) (aay false) ?_ ?_ (a4q _)|refine a2r (as6.or aj1) atx ?_ ?_ (a4q _))|(show PE _ (.ListComp _ _ _ _) _;first|refine zf (by rfl) (a6b ["_law_part"]) ?_ (pgn _) zc (λ_ _ _ _=>?_)|refine zf (by rfl) (a6b ["_law_one"]) ?_ (pgn _) zc (λ_ _ _ _=>?_)|refine zf (by rfl) (a6b ["sign"]) ?_ (pgn _) zc (λ_ _ _ _=>?_)|refine zf (by rfl) (a6b ["part"]) ?_ (pgn _) zc (λ_ _ _ _=>?_)|refine zf (by rfl) (ae8 ["sign"] ["tongue"] [0]) ?_ (pgn _) zc (λ_ _ _ _=>?_)|refine zf (by rfl) (a6b ["name","shape"]) ?_ (λ_ _ _ _=>(aej (by rfl) (a3g (pgm _) (a3g (pgm _) aa9)))) amd (λ_ _ _ _=>?_)|refine zf (by rfl) (ae8 ["rule"] ["tongue"] [1]) ?_ (pgn _) zc (λ_ _ _ _=>?_)|refine ac2 (by rfl) (ae8 ["part"] ["tongue"] [0]) ?_ (pgn _) zc (λ_ _ _ _=>?_) (λ_ _ _ _=>?_)|refine zf (by rfl) (a6b ["letter"]) ?_ (pgn _) zc (λ_ _ _ _=>?_)|refine zf (by rfl) (ae8 ["_law_k"] ["_law_left","_law_letters"] [0,2]) ?_ (pgn _) zc (λ_ _ _ _=>?_)|refine ac2 (by rfl) (ae8 ["_law_k"] ["_law_thing","_law_tongue_here"] [0,1]) ?_ (pgn _) zc (λ_ _ _ _=>?_) (λ_ _ _ _=>?_)|refine zf (by rfl) (a6b ["_law_k"]) ?_ (pgn _) zc (λ_ _ _ _=>?_)|refine zf (by rfl) (a6b ["_law_rule"]) ?_ (pgn _) zc (λ_ _ _ _=>?_))|exact ap4|exact ag5 false (by ac_rfl) (by exists hr.mono (by assumption)) (by rfl)|refine au4 PySem.F.slot_list_append PySem.F.type_list_append (by exists af5) ap0 ?_ ?_|(show PE _ (.UnaryOp _ _ _) _;first|refine atv ?_|refine at8 ?_)|refine ag0 (by rfl) (by rfl) (by exists M.len) (by rfl) (by exists M.set) ?_|refine au4 PySem.F.slot_list_extend PySem.F.type_list_extend (by exists MtR.or adx ado) ajz ?_ ?_|refine au5 PySem.F.slot_str_join PySem.F.type_str_join (by exists aoc) ajl ?_ ?_|refine au5 PySem.F.slot_str_index PySem.F.type_str_index (by exists aj7) afy ?_ ?_|refine at9 ?_ ?_ ?_)
 |(show PSs _ _ _;first|exact aub|refine a2b ?_ ?_|refine a7n ?_|exact aog)
 |(show PA _ _ _;first|refine a1f ?_ ?_|exact a92)
 |(show PS _ _ _;first|refine am9 ?_|refine agz _ (by exists SC.nd) ?_|refine ay6 ?_ ?_ ?_|(show PS _ (.For _ _ _ _ _) _;first|refine atj PassesOwn.never (by rfl) ?_ ?_ ?_)|(show PS _ (.Assign _ _ _) _;first|refine atf ?_ ?_|refine atd ?_ ?_ ?_)|refine aoh ?_|refine ama (by exists SC.nd) (by rfl) (by exists Or.inl rfl) (aeo.or a5i) ac8 ?_|(show PS _ (.AugAssign _ _ _ _) _;first|refine aau ?_ ?_ ?_ (aeo.or a5i) ac8|refine aau ?_ ?_ ?_ ain afs|refine aau ?_ ?_ ?_ aep aaq)|refine ama (by exists SC.nd) (by rfl) (by exists Or.inl rfl) aep aaq ?_|refine acn (by exists Z.c_NoBook) (by rfl) (by exists Z.g_NoBook) ?_|refine acn (by exists Z.c_TooHeavy) (by rfl) (by exists Z.g_TooHeavy) ?_|refine acf (by exists SC.nd) (by rfl) (by exists Or.inl rfl) (by rfl) (a6b ["_law_cell"]) ?_ (pgn _) zc (λ_ _ _ _=>?_)|refine acf (by exists SC.nd) (by rfl) (by exists Or.inl rfl) (by rfl) (ae8 ["_law_part"] ["_law_tongue_here","_law_deep"] [1,2]) ?_ (pgn _) zc (λ_ _ _ _=>?_)|refine ajt (by exists SC.nd) (by rfl) (by exists Or.inl rfl) (by rfl) (a6b ["_law_letter"]) ?_ (pgn _) zc (λ_ _ _ _=>?_) (λ_ _ _ _=>?_)|refine ajb _ PassesOwn.never ?_ ?_|(show PS _ (.Try _ _ _ _ _) _;first|refine amw ⟨rfl,Z.g_ReachError,SC.nd,rfl,rfl,⟨rfl,rfl⟩ ,by decide⟩ (a2m Z) (amv (i:=1) (by exists SC.nd) (by rfl) (by exists Or.inl rfl) (agj D_14 (by exists hr.mono (by assumption)) (by rfl) ?_)) (λa=>?_)))
 |(show PT _ _ _;first|(show PT _ (.Compare _ _ _ _) _;first|refine avd (by exists hr.u) ?_ ?_|refine a4v (as4.or a8e) amf ?_ ?_|refine a7m (afl.or a8m) afw ?_ ?_ (by with_unfolding_all rfl)|refine a4v as5 amg ?_ ?_|refine a4v (amo (by exists hr.u)) ag2 ?_ ?_|refine aja (a8d.or xg) (a8d.or xg) a4u a4u ?_ ?_ ?_|refine a4v (aus (by exists hr.u)) (aay true) ?_ ?_|refine a7m (adm.or a8n) aou ?_ ?_ (by with_unfolding_all rfl)|refine a4v axo atw ?_ ?_|refine a4v (a8d.or xg) a4u ?_ ?_|refine a4v (av1 (by exists hr.u)) apv ?_ ?_|refine ags (a8d.or xg) (a8d.or xg) (a8d.or xg) a4u a4u a4u ?_ ?_ ?_ ?_|refine a4v (amy (by exists hr.u)) (aay false) ?_ ?_)|refine at5 ?_|refine asz ?_|refine PW.pt ?_)
 |(show PW _ _ _;first|refine ay5 ?_ ?_|refine at3 ?_|refine at4 ?_ ?_|refine aoe ?_)
 |(show PO _ _ _;first|exact aos|refine aot ?_)
 |(show PI _ _ _ _;first|refine atg ?_|refine aol (by rfl) (by exists M.range) ?_)
 |(show PG _ _ _;first|exact afq (by exists SC.nd) (by rfl) (by exists Or.inl rfl)|refine ate (by rfl) ?_|exact afq (by exists SC.nd) (by rfl) (by exists Or.inr rfl))
 |(show PGs _ _ _;first|refine ajq ?_ ?_|exact aoj)
 |(with_unfolding_all first|refine a2b ?_ ?_|refine a7n ?_))
theorem m_0(M:Nm mg):MD P w K mg base f k ["thing"] ["thing"] "is_number" (top 1) (K20.zj):=by
 walk_at "m"
 unfold K20.zj
 walk_at "d"
theorem m_1(D_0:Dk P w K mg base k "is_number" ["thing"] F_0):MD P w K mg base f k ["thing","low","high"] ["thing","low","high"] "is_number_from" (top 2) (K20.ou F_0):=by
 walk_at "m"
 unfold K20.ou
 walk_at "d"
theorem m_2(M:Nm mg):MD P w K mg base f k ["thing","low","high"] ["thing","low","high"] "is_row" (top 3) (K20.a3t):=by
 walk_at "m"
 unfold K20.a3t
 walk_at "d"
theorem m_3(M:Nm mg):MD P w K mg base f k ["thing"] ["thing"] "is_sign" (top 4) (K20.a1m):=by
 walk_at "m"
 unfold K20.a1m
 walk_at "d"
theorem m_4(M:Nm mg)(D_3:Dk P w K mg base k "is_sign" ["thing"] F_3):MD P w K mg base f k ["thing"] ["thing"] "is_unlike_signs" (top 5) (K20.mq F_3):=by
 walk_at "m"
 unfold K20.mq K20.qz
 walk_at "d"
theorem m_5(C:Cn mg)(D_6:Dk P w K mg base k "parts_count" ["thing","deep","most"] F_6):MD P w K mg base f k ["thing"] ["thing"] "is_shape" (top 10) (a0o F_6):=by
 walk_at "m"
 unfold a0o
 walk_at "d"
theorem m_6(D_9:Dk P w K mg base k "inner" ["shape"] F_9)(D_7:Dk P w K mg base k "is_form" ["thing"] F_7)(D_6:Dk P w K mg base k "parts_count" ["thing","deep","most"] F_6):MD P w K mg base f k ["thing","deep","most","count","part","more"] ["thing","deep","most"] "parts_count" (top 11) (v6 F_9 F_7 F_6):=by
 walk_at "m"
 unfold v6 p6
 walk_at "d"
theorem m_7(M:Nm mg)(D_8:Dk P w K mg base k "are_times" ["low","high"] F_8)(D_2:Dk P w K mg base k "is_row" ["thing","low","high"] F_2)(D_4:Dk P w K mg base k "is_unlike_signs" ["thing"] F_4):MD P w K mg base f k ["thing"] ["thing"] "is_form" (top 12) (a1n F_8 F_2 F_4):=by
 walk_at "m"
 unfold a1n
 walk_at "d"
theorem m_8(D_1:Dk P w K mg base k "is_number_from" ["thing","low","high"] F_1):MD P w K mg base f k ["low","high"] ["low","high"] "are_times" (top 13) (zm F_1):=by
 walk_at "m"
 unfold zm
 walk_at "d"
theorem m_9:MD P w K mg base f k ["shape"] ["shape"] "inner" (top 14) (a6a):=by
 walk_at "m"
 unfold a6a
 walk_at "d"
theorem b0w(M:Nm mg)(D_9:Dk P w K mg base k "inner" ["shape"] F_9)(D_10:Dn P w K mg base k_10 "weight" ["shape"] (a0h K 1 F_10) a_10 ax7)(h_10:k_10<=k):MD P w K mg base f k ["shape","parts"] ["shape"] "weight" (top 15) (a2f F_9 F_10):=by
 walk_at "m"
 unfold a2f a2y
 walk_at "d"
theorem b0x(M:Nm mg)(D_9:Dk P w K mg base k "inner" ["shape"] F_9)(D_11:Dk P w K mg base k "parts_of" ["shape"] F_11):MD P w K mg base f k ["shape","found","part"] ["shape"] "parts_of" (top 16) (a0p F_9 F_11):=by
 walk_at "m"
 unfold a0p yx
 walk_at "d"
theorem b0y(D_4:Dk P w K mg base k "is_unlike_signs" ["thing"] F_4):MD P w K mg base f k ["thing"] ["thing"] "is_tongue" (top 25) (zp F_4):=by
 walk_at "m"
 unfold zp
 walk_at "d"
theorem b0z(M:Nm mg):MD P w K mg base f k ["tongue","thing"] ["tongue","thing"] "is_text" (top 26) (a1p):=by
 walk_at "m"
 unfold a1p a1o
 walk_at "d"
theorem ave:FnScope ["thing","tongue","rules"] ["thing"] (ig (top 28)):=by walk_at "sc"
theorem b13{k:Nat}(M:Nm mg)(C:Cn mg){y_NoBook y_TooHeavy y_ReachError y_NoPlace y_NoShape y_TooMany:Addr}(Z:Xn K mg y_NoBook y_TooHeavy y_ReachError y_NoPlace y_NoShape y_TooMany){a_15:Addr}{d_15:FuncData}{k_15:Nat}{F_15:SF}(D_15:Dn P w K mg base k_15 "is_book" ["thing"] (a0h K 1 F_15) a_15 d_15)(h_15:k_15<=k){a_10:Addr}{ax7:FuncData}{k_10:Nat}{F_10:SF}(D_10:Dn P w K mg base k_10 "weight" ["shape"] (a0h K 1 F_10) a_10 ax7)(h_10:k_10<=k)(cdv:Value)(A:Around)(outer:List Env)(s:Shared)(H:Hp)(E:XK)(hr:Room k (A.deeper (PyProof.Rows.envOfC "looked_book" (ig (top 28)) s.heap.objs.size f cdv))):MSs (cxE P w K mg base ["thing","tongue","rules"] "looked_book" (ig (top 28)) f cdv A outer s H E) (amu mg E) (uq (top 28)) (o7 F_15 F_10):=by
 have SC:=ave;unfold o7 p7
 walk_at "d"
theorem b14(M:Nm mg)(D_2:Dk P w K mg base k "is_row" ["thing","low","high"] F_2)(D_16:Dk P w K mg base k "is_rule" ["tongue","thing"] F_16)(D_12:Dk P w K mg base k "is_tongue" ["thing"] F_12):MD P w K mg base f k ["thing","tongue","rules"] ["thing"] "is_book" (top 29) (a1s F_2 F_16 F_12):=by
 walk_at "m"
 unfold a1s a1r a1q
 walk_at "d"
theorem b16(M:Nm mg)(D_17:Dk P w K mg base k "is_name" ["thing"] F_17)(D_2:Dk P w K mg base k "is_row" ["thing","low","high"] F_2)(D_5:Dk P w K mg base k "is_shape" ["thing"] F_5)(D_13:Dk P w K mg base k "is_text" ["tongue","thing"] F_13)(D_11:Dk P w K mg base k "parts_of" ["shape"] F_11):MD P w K mg base f k ["tongue","thing"] ["tongue","thing"] "is_rule" (top 30) (a1t F_17 F_2 F_5 F_13 F_11):=by
 walk_at "m"
 unfold a1t a08 a07
 walk_at "d"
theorem b17(M:Nm mg):MD P w K mg base f k ["thing"] ["thing"] "is_name" (top 31) (a1v):=by
 walk_at "m"
 unfold a1v a1u
 walk_at "d"
theorem b18(M:Nm mg):MD P w K mg base f k ["_law_script","_law_cells"] ["_law_script"] "_law_source" (top 33) (SRC.xq):=by
 walk_at "m"
 unfold SRC.xq SRC.ux
 walk_at "d"
theorem b19(M:Nm mg):MD P w K mg base f k ["_law_left","_law_many","_law_cell","_law_told"] ["_law_left","_law_many"] "_law_draw" (top 34) (SRC.a0k):=by
 walk_at "m"
 unfold SRC.a0k
 walk_at "d"
theorem b1a:MD P w K mg base f k ["_law_some"] [] "_law_signs" (top 35) (SRC.wg):=by
 walk_at "m"
 unfold SRC.wg
 walk_at "d"
theorem b1b(M:Nm mg)(D_19:Dk P w K mg base k "_law_draw" ["_law_left","_law_many"] F_19)(D_20:Dn P w K mg base k_20 "_law_signs" [] (a0h K 0 F_20) a_20 d_20)(h_20:k_20<=k):MD P w K mg base f k ["_law_left","_law_rest","_law_told","_law_k","_law_at"] ["_law_left"] "_law_tongue" (top 36) (SRC.xr F_19 F_20):=by
 walk_at "m"
 unfold SRC.xr SRC.uy
 walk_at "d"
theorem b1c(M:Nm mg)(D_19:Dk P w K mg base k "_law_draw" ["_law_left","_law_many"] F_19):MD P w K mg base f k ["_law_left","_law_tongue_here","_law_rest","_law_told","_law_many","_law_k","_law_at"] ["_law_left","_law_tongue_here"] "_law_ones" (top 37) (DRW.a0l F_19):=by
 walk_at "m"
 unfold DRW.a0l DRW.yr
 walk_at "d"
theorem b1d(M:Nm mg)(D_23:Dk P w K mg base k "_law_weight" ["_law_shape_here"] F_23):MD P w K mg base f k ["_law_shape_here"] ["_law_shape_here"] "_law_weight" (top 38) (DRW.uh F_23):=by
 walk_at "m"
 unfold DRW.uh DRW.qi
 walk_at "d"
theorem b1e(M:Nm mg)(D_19:Dk P w K mg base k "_law_draw" ["_law_left","_law_many"] F_19)(D_22:Dk P w K mg base k "_law_ones" ["_law_left","_law_tongue_here"] F_22)(D_24:Dk P w K mg base k "_law_shape" ["_law_left","_law_tongue_here","_law_deep","_law_purse","_law_room"] F_24)(D_23:Dk P w K mg base k "_law_weight" ["_law_shape_here"] F_23):MD P w K mg base f k ["_law_left","_law_tongue_here","_law_deep","_law_purse","_law_room","_law_sort","_law_high","_law_low","_law_parts","_law_k","_law_part"] ["_law_left","_law_tongue_here","_law_deep","_law_purse","_law_room"] "_law_shape" (top 39) (DRW.wj F_19 F_22 F_24 F_23):=by
 walk_at "m"
 unfold DRW.wj DRW.u6
 walk_at "d"
theorem b1f(M:Nm mg)(D_19:Dk P w K mg base k "_law_draw" ["_law_left","_law_many"] F_19):MD P w K mg base f k ["_law_left","_law_names","_law_letters","_law_name_here","_law_at","_law_first","_law_tried","_law_letter"] ["_law_left","_law_names"] "_law_name" (top 40) (DRW.a0m F_19):=by
 walk_at "m"
 unfold DRW.a0m DRW.a0v DRW.yt DRW.a0u
 walk_at "d"
theorem b1g(M:Nm mg)(D_19:Dk P w K mg base k "_law_draw" ["_law_left","_law_many"] F_19)(D_25:Dk P w K mg base k "_law_name" ["_law_left","_law_names"] F_25)(D_24:Dk P w K mg base k "_law_shape" ["_law_left","_law_tongue_here","_law_deep","_law_purse","_law_room"] F_24)(D_23:Dk P w K mg base k "_law_weight" ["_law_shape_here"] F_23):MD P w K mg base f k ["_law_left","_law_tongue_here","_law_purse","_law_names","_law_rules","_law_k","_law_deep","_law_shape_here","_law_name_here"] ["_law_left","_law_tongue_here","_law_purse"] "_law_book" (top 41) (DRW.a0n F_19 F_25 F_24 F_23):=by
 walk_at "m"
 unfold DRW.a0n DRW.uz
 walk_at "d"
theorem b1h(M:Nm mg):MD P w K mg base f k ["_law_found","_law_one"] ["_law_found"] "_law_row" (top 42) (a1w):=by
 walk_at "m"
 unfold a1w xx
 walk_at "d"
theorem b1i(M:Nm mg):MD P w K mg base f k ["_law_thing","_law_tongue_here"] ["_law_thing","_law_tongue_here"] "_law_is_signs" (top 43) (u9):=by
 walk_at "m"
 unfold u9 jw wu
 walk_at "d"
theorem b1j(M:Nm mg)(D_29:Dk P w K mg base k "_law_counted" ["_law_thing","_law_tongue_here","_law_deep"] F_29)(D_28:Dk P w K mg base k "_law_is_signs" ["_law_thing","_law_tongue_here"] F_28)(D_27:Dk P w K mg base k "_law_row" ["_law_found"] F_27):MD P w K mg base f k ["_law_thing","_law_tongue_here","_law_deep","_law_parts","_law_counts"] ["_law_thing","_law_tongue_here","_law_deep"] "_law_counted" (top 44) (v7 F_29 F_28 F_27):=by
 walk_at "m"
 unfold v7 p8
 walk_at "d"
theorem b1k(M:Nm mg)(D_29:Dk P w K mg base k "_law_counted" ["_law_thing","_law_tongue_here","_law_deep"] F_29)(D_28:Dk P w K mg base k "_law_is_signs" ["_law_thing","_law_tongue_here"] F_28)(D_20:Dn P w K mg base k_20 "_law_signs" [] (a0h K 0 F_20) a_20 d_20)(h_20:k_20<=k):MD P w K mg base f k ["_law_thing","_law_names","_law_rule","_law_strange"] ["_law_thing"] "_law_is_book" (top 45) (v8 F_29 F_28 F_20):=by
 walk_at "m"
 unfold v8 lr ph yg
 walk_at "d"
theorem b1l(M:Nm mg)(D_19:Dk P w K mg base k "_law_draw" ["_law_left","_law_many"] F_19):MD P w K mg base f k ["_law_left","_law_some","_law_more","_law_last","_law_odd","_law_bags"] ["_law_left"] "_law_any" (top 46) (a1x F_19):=by
 walk_at "m"
 unfold a1x
 walk_at "d"
theorem b1m(M:Nm mg)(D_31:Dk P w K mg base k "_law_any" ["_law_left"] F_31)(D_32:Dk P w K mg base k "_law_bent_shape" ["_law_left","_law_shape_here","_law_tongue_here"] F_32)(D_19:Dk P w K mg base k "_law_draw" ["_law_left","_law_many"] F_19)(D_20:Dn P w K mg base k_20 "_law_signs" [] (a0h K 0 F_20) a_20 d_20)(h_20:k_20<=k):MD P w K mg base f k ["_law_left","_law_shape_here","_law_tongue_here","_law_sort","_law_at","_law_part"] ["_law_left","_law_shape_here","_law_tongue_here"] "_law_bent_shape" (top 47) (lu F_31 F_32 F_19 F_20):=by
 walk_at "m"
 unfold lu o8
 walk_at "d"
theorem b1n(M:Nm mg)(D_19:Dk P w K mg base k "_law_draw" ["_law_left","_law_many"] F_19):MD P w K mg base f k ["_law_left","_law_names","_law_name_here","_law_at","_law_sign","_law_fresh"] ["_law_left","_law_names","_law_name_here"] "_law_bent_name" (top 48) (qp F_19):=by
 walk_at "m"
 unfold qp
 walk_at "d"
theorem b1o(M:Nm mg)(D_33:Dk P w K mg base k "_law_bent_name" ["_law_left","_law_names","_law_name_here"] F_33)(D_32:Dk P w K mg base k "_law_bent_shape" ["_law_left","_law_shape_here","_law_tongue_here"] F_32)(D_19:Dk P w K mg base k "_law_draw" ["_law_left","_law_many"] F_19):MD P w K mg base f k ["_law_left","_law_rules","_law_tongue_here","_law_at","_law_name_here","_law_shape_here","_law_sort","_law_rule"] ["_law_left","_law_rules","_law_tongue_here"] "_law_bent_rules" (top 49) (pq F_33 F_32 F_19):=by
 walk_at "m"
 unfold pq ud oh o9
 walk_at "d"
theorem b1p(M:Nm mg)(D_19:Dk P w K mg base k "_law_draw" ["_law_left","_law_many"] F_19)(D_20:Dn P w K mg base k_20 "_law_signs" [] (a0h K 0 F_20) a_20 d_20)(h_20:k_20<=k):MD P w K mg base f k ["_law_left","_law_tongue_here","_law_at","_law_sign","_law_less","_law_news"] ["_law_left","_law_tongue_here"] "_law_bent_tongue" (top 50) (my F_19 F_20):=by
 walk_at "m"
 unfold my
 walk_at "d"
theorem b1q(M:Nm mg)(Z:Xn K mg y_NoBook y_TooHeavy y_ReachError y_NoPlace y_NoShape y_TooMany)(D_14:DnX P w K mg base k_14 "looked_book" ["thing"] (spX K mg 1 F_14) a_14 d_14)(h_14:k_14<=k):MD P w K mg base f k ["_law_thing","_law_found","_law_kind","e"] ["_law_thing"] "_law_said" (top 51) (za F_14):=md (by walk_at "sc") λSC cdv A outer s H E hr =>
 (a2b (agz 1 SC.nd afm)
 (a2b (agz 2 SC.nd afm)
 (a2b (amw (i:=3) ⟨rfl,Z.g_ReachError,SC.nd,rfl,rfl,⟨rfl,rfl⟩,by decide⟩ (a2m Z)
 (amv (i:=1) SC.nd rfl (Or.inl rfl) (agj D_14 (hr.mono h_14) rfl (a1f (asw 0) a92)))
 (λa=>(a2b (agz 2 SC.nd (aby (a1f (a73 (i:=3) rfl M.isinstance ju rfl (Or.inl rfl) (zb (v:=.ref y_NoBook) rfl Z.g_NoBook rfl) (.inl ⟨_,rfl,rfl⟩) (a9r Z)) (a1f (a73 (i:=3) rfl M.isinstance ju rfl (Or.inl rfl) (zb (v:=.ref y_TooHeavy) rfl Z.g_TooHeavy rfl) (.inl ⟨_,rfl,rfl⟩) (a6c Z)) (a1f (a73 (i:=3) rfl M.isinstance ju rfl (Or.inl rfl) (aa7 (v:=.ty "ValueError") rfl M.ValueError PyProof.Rows.Boot.«ValueError» rfl) (.inr ⟨_,rfl,rfl⟩) (a3v Z)) a92)))))
 (a7n (agz 2 SC.nd (agc (asw 2) (aby (a1f (agl (i:=3) (cs:=[y_NoPlace,y_NoShape,y_TooMany]) rfl M.isinstance ju rfl (Or.inl rfl) (uo (zb (v:=.ref y_NoPlace) rfl Z.g_NoPlace rfl) (uo (zb (v:=.ref y_NoShape) rfl Z.g_NoShape rfl) (uo (zb (v:=.ref y_TooMany) rfl Z.g_TooMany rfl) a4s))) (λ_ _ _ q=>q) (a7l (by simp)) (qw Z)) a92))))))))
 (a7n (am9 (aby (a1f (asw 1) (a1f (asw 2) a92))))))))
theorem b1r(M:Nm mg)(D_30:Dk P w K mg base k "_law_is_book" ["_law_thing"] F_30)(D_36:Dk P w K mg base k "_law_said" ["_law_thing"] F_36)(D_23:Dk P w K mg base k "_law_weight" ["_law_shape_here"] F_23):MD P w K mg base f k ["_law_thing","_law_kept","_law_found","_law_kind"] ["_law_thing"] "_law_right" (top 52) (zu F_30 F_36 F_23):=by
 walk_at "m"
 unfold zu xf
 walk_at "d"
theorem b1s(D_31:Dk P w K mg base k "_law_any" ["_law_left"] F_31)(D_34:Dk P w K mg base k "_law_bent_rules" ["_law_left","_law_rules","_law_tongue_here"] F_34)(D_35:Dk P w K mg base k "_law_bent_tongue" ["_law_left","_law_tongue_here"] F_35)(D_26:Dk P w K mg base k "_law_book" ["_law_left","_law_tongue_here","_law_purse"] F_26)(D_19:Dk P w K mg base k "_law_draw" ["_law_left","_law_many"] F_19)(D_37:Dk P w K mg base k "_law_right" ["_law_thing"] F_37)(D_18:Dn P w K mg base k_18 "_law_source" ["_law_script"] (a0h K 1 F_18) a_18 d_18)(h_18:k_18<=k)(D_21:Dk P w K mg base k "_law_tongue" ["_law_left"] F_21):MD P w K mg base f k ["_law_script","_law_left","_law_sort","_law_purse","_law_book_here","_law_thing","_law_things"] ["_law_script"] "law" (top 53) (agy F_31 F_34 F_35 F_26 F_19 F_37 F_18 F_21):=by
 walk_at "m"
 unfold agy
 walk_at "d"
end
end K16
namespace MI
open L2
theorem ah0(ts:List Str):(Str.join ", " ts).length<=piled ts:=by
 cases ts with
 |nil=>exact bH _
 |cons t ts=>have:=join_length_add (t::ts) (by simp);omega
theorem a9s(ts:List Str):(tupleText ts).length<=piled ts+3:=by
 have:=ah0 ts
 unfold tupleText;rw[eO,eO];have e1:("(" : Str).length=1:=rfl;have e2:(Str.ofString (if ts.length == 1 then ",)" else ")")).length<=2:=by split<;>decide
 omega
theorem ab6(ts:List Str):(listText ts).length<=piled ts+2:=by
 have:=ah0 ts
 rw[listText_eq_join,eO,eO];have e1:("[" : Str).length=1:=rfl;have e2:("]" : Str).length=1:=rfl;omega
end MI
namespace HND
open L2 MI AT
noncomputable def ax1:Str := " !\"#$&'()*+,-./0123456789:;<=>?@ABCDEFGHIJKLMNOPQRSTUVWXYZ[\\]^_`"
noncomputable def ax2:Str := "abcdefghijklmnopqrstuvwxyz{|}~\n"
noncomputable def sig:List Nat:=ax1.cps.toList++ax2.cps.toList
theorem a2z:sig.length=95:=by decide +kernel
theorem avf:sig.Nodup:=by decide +kernel
def b8:SF:=jt wg 1
theorem lits{h:Hd}:dm (.str ax1) (.str ax2) h=.ok (.str (S sig)) h:=by
 rw[<-a1b ax1,<-a1b ax2,a2v (by decide +kernel)]
 rfl
theorem a2g:Pu b8 0 [] (.str (S sig)):=by
 refine Pu.of rfl (by simp) (r:=.ok (.str (S sig)) []) ?_ (by rw[km (cu _) (by simp)];rfl) (cu _)
 unfold b8;rw[du];unfold wg;have e:=@lits [];unfold ax1 ax2 at e;show toR (gh (j5 0 _) _ [none] [])=_;simp only[wz,j5,sC,a1k,a1l,jf,s2,sV,List.set_cons_zero,eH,bw,e,a72]
structure Tongue (l:List Nat):Prop where
 lo:1<=l.length
 hi:l.length<=6
 nd:l.Nodup
 sub:∀c∈l,c∈sig
theorem a9t(a r:List Nat)(i:Nat)(c:Nat)(e:r[i]? = some c):List.Perm (a++r) ((a++[c])++(r.take i++r.drop (i+1))):=by
 obtain⟨hi,e⟩:=ag.mp e;have:r=r.take i++c::r.drop (i+1):=by rw[<-e];simp
 rw[dZ];refine List.Perm.append_left a ?_;rw[eU]
 conv=>lhs;rw[this]
 exact List.perm_middle
abbrev bz(i:Nat):D:=.int (i:Nat)
end HND
namespace PAP
open L2 MI AT HND
def Pln:D->Prop
 |.non=>True|.bl _=>True|.int _=>True|.str x=>x.cps.toList.length<=1000|.tup xs=>clos 0 xs|.rol xs=>clos 0 xs|.rod _ xs=>clos 0 xs|_=>False
theorem Pln.clo(p:Pln d):clo 0 d:=by
 cases d<;>first|(simp only[Pln]at p;done)|(simp only[Pln]at p;simpa[MI.clo] using p)|simp[MI.clo]
def isTup:D->Bool|.tup _=>true|_=>false
theorem ab7(p:Pln d):m5 [d,.ty "tuple"] h=.ok (.bl (isTup d)) h:=by
 cases d<;>first|(simp only[Pln]at p;done)|simp[m5,amk,tyD,ai9,isTup]
theorem ax3(l:List Nat)(h:Hd):aje (.str (S l)) h=.ok ⟨l.map λc=>.str (S [c]),λ_=>True⟩ h:=by
 show R.ok (⟨a04 (S l),λ_=>True⟩:Itm) _=_;unfold a04;rw[yu]
theorem a4l(e:f τ h=.ok (.bl false) h1):qx f k τ h=.ok (.bl false) h1:=by unfold qx;rw[e,bw]
theorem an0(bs:List Bool)(h:Hd):aia [.rol (bs.map D.bl)] h=.ok (.bl (bs.all id)) h:=by
 unfold aia;simp only[ajn]
theorem ah1:∀c∈sig,c<127:=by decide +kernel
theorem a3c(e:f τ h=.ok (.int i) h1):oS f τ h=.ok (some i) h1:=by unfold oS;rw[e];rfl
theorem a3d(e:f τ h=.ok d h1)(e1:lo τ h1=.ok a h2)(e2:hi τ h2=.ok b h3)(e3:acg d a b h3=.ok v h4):vm f lo hi τ h=.ok v h4:=by
 unfold vm;rw[e,bw,e1,bw,e2,bw,e3]
theorem azw(xs:List D)(lo hi:Option Int)(h:Hd):acg (.tup xs) lo hi h=.ok (.tup (a6k xs lo hi)) h:=by
 unfold acg;dsimp only
 split
 .rename_i w;obtain⟨a,b⟩:=w
  congr 2
  unfold a6k;rw[a,b,gp,cf (by omega)]
 .rfl
theorem acy(xs:List D)(k:Nat)(h:Hd):acg (.tup xs) none (some (k:Int)) h=.ok (.tup (xs.take k)) h:=by rw[azw,aah]
theorem yo(xs:List D)(k:Nat)(h:Hd):acg (.tup xs) (some (k:Int)) none h=.ok (.tup (xs.drop k)) h:=by rw[azw,a8z]
theorem zx{xs ys:List D}(z:xs.length+ys.length<=1000000):dm (.tup xs) (.tup ys) h=.ok (.tup (xs++ys)) h:=by
 cases xs with
 |nil=>rfl
 |cons x xs =>
  show(if (x::xs).length+ys.length<=LINE then R.ok (D.tup (x::xs++ys)) h else .no)=_
  rw[av (bx z)]
theorem a3w:MI.dj [a] h=.ok (.tup [a]) h:=by unfold MI.dj;rw[av (bx (by simp))]
theorem a5g:MI.dj [] h=.ok (.tup []) h:=by unfold MI.dj;rw[av (bx (by simp))]
theorem a09(e:f τ h=.ok d h1)(e2:k τ h1=.ok ds h2):aj f k τ h=.ok (d::ds) h2:=by
 unfold aj;rw[e,bw,e2,bw]
theorem aof(e:k τ h=.ok ds h1)(e2:G ds h1=.ok v h2):sA G k τ h=.ok v h2:=by
 unfold sA;rw[e,bw,e2]
theorem a76{h h':Hd}(hl:h'.length=h.length)(e:f τ h=.ok (.ref h'.length) (h'++[.lst xs]))(cx:clos h.length xs)(c:∀o∈h',yc h.length o):sZ f τ h=.ok (.rol xs) h':=by
 unfold sZ;rw[e,a7w (by omega) (by simp) cx (by rw[<-hl];simpa[hl] using c)]
 rw[<-hl];simp
end PAP
def aoo:=@PAP.aof
def cns:=@PAP.a09
namespace EVX
open L2 MI
section
variable{i:Nat}{cs:Str->Bool}{fb fs p g:SS}{τ τ1 τ2:Sd}{h h1 h2:Hd}{c:Str}{f:SE}{ka:SA}{ds:List D}{F:SF}{n:Nat}
theorem avh(e:p τ h=.ex c h1):gh p g τ h=.ex c h1:=by unfold gh;rw[e]
theorem ah2(e:ka τ h=.ok ds h1)(l:ds.length<=100):a9j c ka τ h=.ex c h1:=by
 unfold a9j;rw[e];show(if ds.length<=LINE then Fl.ex c h1 else .no)=_
 rw[av (bx (by omega))]
theorem aq1(hn:ds.length=n)(cd:∀x∈ds,MI.clo 0 x)(e:F ds []=.ex c h1):a9h n F ds h=.ex c h:=by
 unfold a9h;rw[av cd,e];exact av hn
theorem aq2(cd:∀x∈ds,MI.clo 0 x)(e:F ds []=.ok d h1)(p:Pu F n ds d'):a9h n F ds h=.ok d' h:=by
 unfold a9h;rw[av cd,e];exact p h
theorem avi(e:fb τ h=.nx τ1 h1):apn i cs fb fs τ h=.nx τ1 h1:=by unfold apn;rw[e]
theorem avj(e:fb τ h=.ex c h1)(hc:cs c=true)(e2:fs (τ.set i (some (.exc c))) h1=.nx τ2 h2):apn i cs fb fs τ h=.nx (τ2.set i none) h2:=by
 unfold apn;rw[e];show(if cs c=true then _ else _)=_
 rw[av hc,e2]
theorem ays(e:f τ h=.ex c h1):j5 i f τ h=.ex c h1:=by unfold j5;rw[e];rfl
theorem qof{α:Type}{k:Sd->Hd->R α}{x:α}(e:k τ h=.ok x h1):qA k τ h=.ok x h1:=by unfold qA;rw[e];rfl
theorem azx(e:ka τ h=.ok ds h1):sA F ka τ h=F ds h1:=by unfold sA;rw[e];rfl
theorem al3(e:τ[i]? = some (some (.exc c)))(e2:x c=some b):aic i x τ h=.ok (.bl b) h:=by unfold aic;rw[e];dsimp only;rw[e2]
theorem an1(e:f τ h=.ok (.bl b) h1):a91 f τ h=.ok (.bl (!b)) h1:=by unfold a91;rw[e];rfl
theorem a09(e:f τ h=.ok d h1)(e2:ka τ h1=.ok ds h2):aj f ka τ h=.ok (d::ds) h2:=by
 unfold aj;rw[e,bw,e2];rfl
theorem a3w:MI.dj [a] h=.ok (.tup [a]) h:=by unfold MI.dj;rw[av (bx (by simp))]
theorem a5g:MI.dj [] h=.ok (.tup []) h:=by unfold MI.dj;rw[av (bx (by simp))]
theorem azy{G:List D->Hd->R D}{f1 f2 f3 f4:SE}{h3 h4 h5:Hd}{a b c d v:D}(e1:f1 τ h=.ok a h1)(e2:f2 τ h1=.ok b h2)(e3:f3 τ h2=.ok c h3)(e4:f4 τ h3=.ok d h4)(e5:G [a,b,c,d] h4=.ok v h5):sA G (aj f1 (aj f2 (aj f3 (aj f4 aq)))) τ h=.ok v h5:=by
 have:aj f1 (aj f2 (aj f3 (aj f4 aq))) τ h=.ok [a,b,c,d] h4:=by unfold aj;rw[e1,bw,e2,bw,e3,bw,e4];rfl
 unfold sA;rw[this,bw,e5]
end
end EVX
namespace HND
open L2 MI AT
structure Table where
 tg:List Nat
 go:List (List Nat)
 ks:List Int
end HND
namespace K20
open L2 MI AT HND EVX
open PAP hiding a09 a3w a5g a76 aof
def Deep:Nat->D->Prop
 |0,d=>Pln d
 |n+1,d=>Pln d/\∀ws,d=.tup ws->ws.length<=1000/\∀x∈ws,Deep n x
theorem Deep.pln{n:Nat}{d:D}(h:Deep n d):Pln d:=by cases n with|zero=>exact h|succ n=>exact h.1
theorem Deep.down{n:Nat}:∀{d:D},Deep (n+1) d->Deep n d:=by
 induction n with
 |zero=>exact λh=>h.1
 |succ n ih=>exact λh=>⟨h.1,λws e=>⟨(h.2 ws e).1,λx hx=>ih ((h.2 ws e).2 x hx)⟩⟩
def isInt:D->Bool|.int _=>true|_=>false
def a4b:D->Bool|.bl _=>true|_=>false
def isStr:D->Bool|.str _=>true|_=>false
section
variable{d:D}{h:Hd}
theorem avk(p:Pln d):m5 [d,.ty "int"] h=.ok (.bl (isInt d || a4b d)) h:=by
 cases d<;>first|(simp only[Pln]at p;done)|simp[m5,amk,tyD,ai9,isInt,a4b]
theorem avl(p:Pln d):m5 [d,.ty "bool"] h=.ok (.bl (a4b d)) h:=by
 cases d<;>first|(simp only[Pln]at p;done)|simp[m5,amk,tyD,ai9,a4b]
theorem ab8(p:Pln d):m5 [d,.ty "str"] h=.ok (.bl (isStr d)) h:=by
 cases d<;>first|(simp only[Pln]at p;done)|simp[m5,amk,tyD,ai9,isStr]
end
theorem ab9{f g k:SE}{τ:Sd}{h:Hd}{a x b:Int}(e1:f τ h=.ok (.int a) h)(e2:g τ h=.ok (.int x) h)(e3:k τ h=.ok (.int b) h):sCh gLe gLe f g k τ h=.ok (.bl (decide (a<=x/\x<=b))) h:=by
 unfold sCh;rw[e1,bw,e2,bw,show gLe (.int a) (.int x) h=.ok (.bl (decide (a<=x))) h from rfl,bw]
 by_cases c:a<=x
 .simp only[c,fR,true_and];rw[e3,bw];rfl
 .simp only[c,fF,false_and]
noncomputable def a4m(lo hi:Int):D->Bool|.int i=>decide (lo<=i/\i<=hi)|_=>false
theorem aq3{lo hi:Int}{d:D}(h:a4m lo hi d=true):∃i,d=.int i/\lo<=i/\i<=hi:=by
 cases d<;>first|(simp[a4m]at h;done)|skip
 rename_i i;simp[a4m]at h;exact⟨i,rfl,h.1,h.2⟩
theorem avm{lo hi:Int}{d:D}(h:isInt d=false):a4m lo hi d=false:=by cases d<;>first|rfl|simp[isInt]at h
theorem ar1{a:D}(ha:MI.clo 0 a):∀x∈[a],MI.clo 0 x:=by intro x hx;rw[aK]at hx;subst hx;exact ha
theorem ar2{a b:D}(ha:MI.clo 0 a)(hb:MI.clo 0 b):∀x∈[a,b],MI.clo 0 x:=by
 intro x hx
 simp only[aZ,cE,ff]at hx
 rcases hx with rfl|rfl
 .exact ha
 .exact hb
theorem ar3{a b c:D}(ha:MI.clo 0 a)(hb:MI.clo 0 b)(hc:MI.clo 0 c):∀x∈[a,b,c],MI.clo 0 x:=by
 intro x hx
 rcases aZ.mp hx with rfl|hx
 .exact ha
 .exact ar2 hb hc x hx
theorem a1y{F:SF}{n:Nat}{ds:List D}{b:Bool}{h':Hd}(hn:ds.length=n)(ca:∀x∈ds,MI.clo 0 x)(e:F ds []=.ok (.bl b) h'):Pu F n ds (.bl b):=Pu.of hn ca e (km (uv _) (by simp)) (uv _)
def ue:SF:=jt zj 1
theorem al4{d:D}(p:Pln d):Pu ue 1 [d] (.bl (isInt d)):=by
 refine a1y rfl (ar1 p.clo) (h':=[]) ?_;unfold ue;rw[du];show toR (zj [some d] [])=_;unfold zj;have a1:sA m5 (aj (sV 0) (aj (sC (.ty "int")) aq)) [some d] []=.ok (.bl (isInt d || a4b d)) []:=lq (bh rfl) ckk (avk p)
 have a2:sA m5 (aj (sV 0) (aj (sC (.ty "bool")) aq)) [some d] []=.ok (.bl (a4b d)) []:=lq (bh rfl) ckk (avl p)
 cases hi:isInt d with
 |true =>
  rw[hi,Bool.true_or]at a1;have:a4b d=false:=by cases d<;>first|rfl|simp[isInt]at hi
  rw[this]at a2;exact ah toR (fu (a1c a1 (EVX.an1 a2)))
 |false =>
  rw[hi,fg]at a1
  cases hb:a4b d with
  |true=>rw[hb]at a1 a2;exact ah toR (fu (a1c a1 (EVX.an1 a2)))
  |false=>rw[hb]at a1;exact ah toR (fu (a4l a1))
def jg:SF:=jt (ou ue) 3
theorem a77{d:D}(p:Pln d)(lo hi:Int):Pu jg 3 [d,.int lo,.int hi] (.bl (a4m lo hi d)):=by
 refine a1y rfl (ar3 p.clo (dh _) (dh _)) (h':=[]) ?_;unfold jg;rw[du];show toR (ou ue [some d,some (.int lo),some (.int hi)] [])=_;unfold ou;have c:=al4 p []
 cases hi':isInt d with
 |true =>
  obtain⟨i,rfl⟩:∃i,d=.int i:=by cases d<;>first|exact⟨_,rfl⟩|simp[isInt]at hi'
  exact ah toR (fu (a1c (jo (bh rfl) c) (ab9 (bh rfl) (bh rfl) (bh rfl))))
 |false =>
  rw[hi']at c;rw[avm hi'];exact ah toR (fu (a4l (jo (bh rfl) c)))
noncomputable def vo(lo hi:Int):D->Bool|.tup xs=>decide (lo<=(xs.length:Int)/\(xs.length:Int)<=hi)|_=>false
theorem len_T(xs:List D)(h:Hd):kj [.tup xs] h=.ok (.int (xs.length:Nat)) h:=a66
def gw:SF:=jt a3t 3
theorem a2h{d:D}(p:Pln d)(lo hi:Int):Pu gw 3 [d,.int lo,.int hi] (.bl (vo lo hi d)):=by
 refine a1y rfl (ar3 p.clo (dh _) (dh _)) (h':=[]) ?_;unfold gw;rw[du];show toR (a3t [some d,some (.int lo),some (.int hi)] [])=_;unfold a3t;have a1:sA m5 (aj (sV 0) (aj (sC (.ty "tuple")) aq)) [some d,some (.int lo),some (.int hi)] []=.ok (.bl (isTup d)) []:=lq (bh rfl) ckk (ab7 p)
 cases ht:isTup d with
 |true =>
  obtain⟨xs,rfl⟩:∃xs,d=.tup xs:=by cases d<;>first|exact⟨_,rfl⟩|simp[isTup]at ht
  exact ah toR (fu (a1c a1 (ab9 (bh rfl) (jo (bh rfl) (len_T xs _)) (bh rfl))))
 |false =>
  rw[ht]at a1;have:vo lo hi d=false:=by cases d<;>first|rfl|simp[isTup]at ht
  rw[this];exact ah toR (fu (a4l a1))
theorem acz{fi:SI}{ce:SE}{ix:List Nat}{τ:Sd}{xs:List D}{P:D->Bool}(e:fi τ []=.ok ⟨xs,λ_=>True⟩ [])(ln:xs.length<=1000000)(st:∀x∈xs,a2t t1 ce (frs' ix τ) x []=.ok (.bl (P x)) []) :
  sA aia (aj (sZ (mj fi t1 ce ix)) aq) τ []=.ok (.bl (xs.all P)) []:=by
 have e':fi τ []=.ok ⟨xs.map (λx=>x),λ_=>True⟩ []:=by rw[dE];exact e
 have cz:sZ (mj fi t1 ce ix) τ []=.ok (.rol ((xs.map P).map D.bl)) []:=by
  rw[cQ];exact a4x (qj (λx=>x) (λx=>.bl (P x)) xs e' (bx ln) st) (g8 λc _=>uv _) (by simp)
 refine jo cz ?_;rw[an0,dU];rfl
noncomputable def aa6(l:List Nat):Bool:=decide (1<=l.length/\l.length<=6) && (decide l.Nodup && l.all (λc=>decide (c∈sig)))
noncomputable def a2k:D->Bool|.str x=>aa6 x.cps.toList|_=>false
theorem avn(l:List Nat):a2k (.str (S l))=aa6 l:=by simp only[a2k,yu]
theorem a9u:∀c:Nat,c<127->(c∈sig↔c=10\/(32<=c/\c<=126/\c≠37)):=by decide +kernel
theorem a84(c:Nat):c∈sig↔c=10\/(32<=c/\c<=126/\c≠37):=by
 by_cases h:c<127
 .exact a9u c h
 .constructor
  .intro z;exact absurd (ah1 c z) h
  .intro z;omega
theorem al5(a b:Nat)(h:Hd):gLe (.str (S [a])) (.str (S [b])) h=.ok (.bl (decide (a<=b))) h:=by
 unfold gLe;have:(S [b]).cps.toList<(S [a]).cps.toList↔b<a:=by
  rw[yu,yu,List.cons_lt_cons_iff];simp
 by_cases c:a<=b
 .rw[ay c];have n:¬ (S [b]).cps.toList<(S [a]).cps.toList:=λz=>by have:=this.mp z;omega
  simp only[n,fF,Bool.not_false]
 .rw[ar c];have n:(S [b]).cps.toList<(S [a]).cps.toList:=this.mpr (by omega)
  simp only[n,fR,Bool.not_true]
theorem azz{a b:List Nat}{h:Hd}:hEq (.str (S a)) (.str (S b)) h=.ok (.bl (decide (a=b))) h:=by rw[akx,av2]
def uc:SF:=jt a1m 1
theorem ah3(c:Nat):Pu uc 1 [.str (S [c])] (.bl (decide (c∈sig))):=by
 refine a1y rfl (ar1 (cu _)) (h':=[]) ?_;unfold uc;rw[du];show toR (a1m [some (.str (S [c]))] [])=_;unfold a1m;refine eti (orF (um (iy (lq (bh rfl) ckk (ab8 (d:=.str (S [c])) (by simp[Pln]))) (fj _))) (t2s (jo (bh rfl) (a4z (bx (by simp)))) ckk (a5a rfl))) ?_
 by_cases h10:c=10
 .subst h10;exact(ah toR (jd (ai (ifT (tvc rfl (azz (b:=[10])))) (fu ckk)))).trans (by rw[ay ((a84 10).mpr (.inl rfl))];rfl)
 .refine eti (tvc rfl ((azz (b:=[10])).trans (by rw[ar (by simpa using h10)]))) ?_
  have od:au1 [.str (S [c])] []=.ok (.int (c:Nat)) []:=by
   unfold au1;dsimp only;rw[av (by rw[a4y];rfl)]
   rfl
  have ch:sCh gLe gLe (sC (.str " ")) (sV 0) (sC (.str "~")) [some (.str (S [c]))] []=.ok (.bl (decide (32<=c/\c<=126))) []:=by
   unfold sCh;rw[a6o,bw,bh rfl,bw,show gLe (.str " ") (.str (S [c])) []=.ok (.bl (decide (32<=c))) [] from al5 32 c [],bw]
   by_cases z:32<=c
   .simp only[z,fR,true_and];rw[a6o,bw];exact al5 c 126 []
   .simp only[z,fF,false_and]
  by_cases z:32<=c/\c<=126
  .rw[ay z]at ch;refine etr (fu (a1c ch (jb (jo (bh rfl) od) ckk ab2))) ?_;rw[a72]
   congr 2
   by_cases q:c=37
   .subst q;rw[ar (λz=>by have:=(a84 37).mp z;omega)]
    rfl
   .rw[ay ((a84 c).mpr (.inr ⟨z.1,z.2,q⟩)),e8,bQ];omega
  .rw[ar z]at ch;refine etr (fu (a4l ch)) ?_;rw[ar (λw=>by have:=(a84 c).mp w;omega)]
   rfl
def gq:SF:=jt (mq uc) 1
theorem an2{c:ST}{τ:Sd}{h h1:Hd}{b:Bool}(e:c τ h=.ok b h1):a0g c τ h=.ok (!b) h1:=by cases b;exact a0z e;exact um e
theorem a9v{d:D}(p:Pln d):Pu gq 1 [d] (.bl (a2k d)):=by
 refine a1y rfl (ar1 p.clo) (h':=[]) ?_;unfold gq;rw[du];show toR (mq uc [some d] [])=_;unfold mq;have a1:sA m5 (aj (sV 0) (aj (sC (.ty "str")) aq)) [some d] []=.ok (.bl (isStr d)) []:=lq (bh rfl) ckk (ab8 p)
 cases hs:isStr d with
 |true =>
  obtain⟨x,rfl⟩:∃x,d=.str x:=by cases d<;>first|exact⟨_,rfl⟩|simp[isStr]at hs
  have xl:x.cps.toList.length<=1000:=p;rw[<-a1b x]at a1 ⊢
  generalize x.cps.toList=l at xl a1
  rw[avn];have ln:∀hh,kj [.str (S l)] hh=.ok (.int (l.length:Nat)) hh:=λhh=>a4z (bx (by omega))
  have ch:=ab9 (f:=sC (.int 1)) (g:=sA kj (aj (sV 0) aq)) (k:=sC (.int 6)) (τ:=[some (.str (S l))]) (h:=[]) ckk (jo (bh rfl) (ln _)) ckk
  by_cases hl:1<=l.length/\l.length<=6
  .rw[ay (by omega)]at ch
   refine eti (orF (um (iy a1 (fj _))) (um (tof ch))) ?_;have ls:a2u (.str (S l)) []=.ok (.int ((a4w l).length:Nat)) []:=by
    unfold a2u;dsimp only;rw[av (by rw[a4y];omega)]
   have al:=acz (fi:=sIt (sV 0)) (ce:=qz uc) (ix:=[]) (τ:=[some (.str (S l))]) (xs:=l.map λc=>.str (S [c])) (P:=λd=>match d with|.str x=>x.cps.toList.all (λc=>decide (c∈sig))|_=>false) (a75 (bh rfl) (ax3 l _)) (by rw[aJ];omega) λx hx=>by
    obtain⟨c,_,rfl⟩:=bD.mp hx;rw[v5];refine(jo (bh rfl) (ah3 c _)).trans ?_;simp only[yu,bC,cZ,cF]
   have ea:(l.map λc=>D.str (S [c])).all (λd=>match d with|.str x=>x.cps.toList.all (λc=>decide (c∈sig))|_=>false)=l.all (λc=>decide (c∈sig)):=by
    rw[dU]
    congr 1
    funext c
    simp only[Function.comp,yu,bC,cZ,cF]
   rw[ea]at al;have eq:hEq (.int ((a4w l).length:Nat)) (.int (l.length:Nat)) []=.ok (.bl (decide l.Nodup)) []:=by
    rw[ab1]
    by_cases nd:l.Nodup
    .rw[ay nd,(a8x l).mpr nd,cV]
    .rw[ar nd,bQ.mpr (λz=>nd ((a8x l).mp (by omega)))]
   have a2:s2 hEq (s1 a2u (sV 0)) (sA kj (aj (sV 0) aq)) [some (.str (S l))] []=.ok (.bl (decide l.Nodup)) []:=jb (ae5 (bh rfl) ls) (jo (bh rfl) (ln _)) eq;unfold aa6;rw[ay hl,bM]
   by_cases nd:l.Nodup
   .rw[ay nd]at a2 ⊢;exact ah toR (fu (a1c a2 al))
   .rw[ar nd]at a2 ⊢;exact ah toR (fu (a4l a2))
  .rw[ar (by omega)]at ch
   unfold aa6;rw[ar hl,dI];exact ah toR (jd (ai (ifT (orF (um (iy a1 (fj _))) (a0z (tof ch)))) (fu ckk)))
 |false =>
  rw[hs]at a1;have:a2k d=false:=by cases d<;>first|rfl|simp[isStr]at hs
  rw[this];exact ah toR (jd (ai (ifT (orT (a0z (iy a1 (fj _))))) (fu ckk)))
theorem ax4(neg:Bool)(c:Nat)(t:List Nat)(h:Hd):gIn neg (.str (S [c])) (.str (S t)) h=.ok (.bl (if neg then !decide (c∈t) else decide (c∈t))) h:=by
 cases neg
 .show R.ok (D.bl (decide (c∈(S t).cps.toList))) h=_;rw[yu];rfl
 .show R.ok (D.bl (!decide (c∈(S t).cps.toList))) h=_;rw[yu];rfl
def L(l:List Nat)(r:Nat):Nat:=(l[r]?).getD 0
noncomputable def avo(l:List Nat)(r:Nat):Bool:=decide (L l r∈sig) && !decide (L l r∈l.take r)
theorem aq4(l:List Nat):(List.range l.length).all (avo l)=(decide l.Nodup && l.all (λc=>decide (c∈sig))):=by
 rw[cU,aM,af,decide_eq_true_iff,aM]
 constructor
 .intro h
  have h':∀r,(hr:r<l.length)->l[r]∈sig/\l[r]∉l.take r:=λr hr=>by
   have:=h r (cB.mpr hr)
   unfold avo L at this;rw[a8 hr]at this;simpa using this
  refine⟨cD.mpr λi j hi hj ij z=>?_,λc hc=>?_⟩
  .exact(h' j hj).2 (fI.mpr ⟨i,by omega,z⟩)
  .obtain⟨i,hi,rfl⟩:=List.getElem_of_mem hc;exact ay (h' i hi).1
 .rintro⟨nd,al⟩ r hr
  rw[cB]at hr;unfold avo L;rw[a8 hr];have a:=al l[r] (b9 hr);rw[decide_eq_true_iff]at a;have b:l[r]∉l.take r:=λz=>by
   obtain⟨i,hi,e⟩:=fI.mp z;exact(cD.mp nd) i r (by omega) hr (by omega) e
  simp[a,b]
end K20
namespace EVT
open L2 MI AT HND
section
variable{f g k f1 f2 f3:SE}{ka:SA}{c c1 c2:ST}{τ:Sd}{h h1 h2 h3:Hd}{a b d v:D}{i:Nat}{t u:Bool}{xs ys ds:List D}
theorem ayt:aq τ h=.ok [] h:=rfl
theorem b1t:oN τ h=.ok none h:=rfl
theorem PuE(p:Pu F n ds d):gm false n F ds h=.ok d h:=p h
theorem b1u(p:Dr F n ds o d o'):gm false n F (.ref 0::ds) (o::h)=.ok d (o'::h):=p 0 (o::h) rfl
theorem a6d(hv:n<xs.length):gIx (.rol xs) (.int (n:Nat)) h=.ok (xs.getD n .non) h:=ayp (by rw[bF,a8 hv];rfl)
theorem a6e(hv:n<xs.length):gIx (.tup xs) (.int (n:Nat)) h=.ok (xs.getD n .non) h:=a6q (by rw[bF,a8 hv];rfl)
theorem avp:kj [.tup xs] h=.ok (bz xs.length) h:=rfl
theorem aq5(e:f τ h=R.ok (D.ref h1.length) (h1++[.lst xs]))(hl:h1.length=h.length)(cx:clos 0 xs)(co:∀o∈h1,yc 0 o):sZ f τ h=.ok (.rol xs) h1 :=
 PAP.a76 hl e (vz (bH _) cx) λo ho=>a0d (bH _) (co o ho)
theorem avq(e:ka τ h=.ok ds h1)(hl:h1.length=h.length)(cd:clos 0 ds)(co:∀o∈h1,yc 0 o)(z:ds.length<=1000000):sZ (sA MI.ye ka) τ h=.ok (.rol ds) h1:=by
 refine aq5 ?_ hl cd co;unfold sA;rw[e,bw];unfold MI.ye;exact av (bx z)
theorem yh(e:f τ h=.ok (.tup xs) h1)(hl:h1.length=h.length)(cd:clos 0 xs)(co:∀o∈h1,yc 0 o):sZ (sA a2j (aj f aq)) τ h=.ok (.rol xs) h1:=aq5 (jo e rfl) hl cd co
theorem yj(e:f τ h=.ok (.str (S l)) h1)(hl:h1.length=h.length)(co:∀o∈h1,yc 0 o)(z:l.length<=1000000):sZ (sA a2j (aj f aq)) τ h=.ok (.rol (l.map λc=>.str (S [c]))) h1:=by
 refine aq5 (jo e ?_) hl (g8 λ_ _=>cu _) co;show(if (S l).length<=LINE then R.ok (D.ref h1.length) (h1++[O.lst (a04 (S l))]) else R.no)=_
 rw[av (bx (by rw[a4y];exact z))]
 unfold a04;rw[yu]
theorem a1z(e1:f τ h=.ok (.rol xs) h1)(e2:g τ h1=.ok (.rol ys) h2)(hl:h2.length=h.length)(c1:clos 0 xs)(c2:clos 0 ys)(co:∀o∈h2,yc 0 o)(z:xs.length+ys.length<=1000000):sZ (s2 dm f g) τ h=.ok (.rol (xs++ys)) h2:=by
 refine aq5 (jb e1 e2 ?_) hl (iz.mpr λx hx=>(bb.mp hx).elim (iz.mp c1 x) (iz.mp c2 x)) co;rw[agb (xs:=xs) (ys:=ys) rfl rfl,av (bx z)]
theorem a2a{k:Int}(e1:f τ h=.ok (.rol xs) h1)(e2:g τ h1=.ok (.int k) h2)(hl:h2.length=h.length)(c1:clos 0 xs)(co:∀o∈h2,yc 0 o)(z:xs.length*k.toNat<=1000000)(zn : -1000000<=k/\k<=1000000):sZ (s2 yq f g) τ h=.ok (.rol (List.replicate k.toNat xs).flatten) h2:=by
 refine aq5 (jb e1 e2 ?_) hl (iz.mpr λx hx=>?_) co
 .have:yq (.rol xs) (.int k) h2=if (-(2^63)<=k/\k<2^63)/\xs.length*k.toNat<=LINE then .ok (.ref h2.length) (h2++[.lst (List.replicate k.toNat xs).flatten]) else .no:=rfl
  rw[this,av ⟨by omega,bx z⟩]
 .obtain⟨l,hl,hx⟩:=eB.mp hx;rw[(fG.mp hl).2]at hx;exact iz.mp c1 x hx
theorem a0q(co:∀o∈h,yc 0 o):sZ a7s τ h=.ok (.rod [] []) h:=by
 unfold sZ;show a9a h.length (.ok (.ref h.length) (h++[.dK []]))=_;rw[aaw (d':=.rod [] []) ?_ ?_]
 .simp
 .unfold FU a5u;rw[aO (by simp only[MI.clo];omega)]
  simp[a1a]
 .simp only[List.take_left'];exact λo ho=>a0d (bH _) (co o ho)
theorem zy:(List.replicate n xs).flatten.length=n*xs.length:=by simp
theorem qg(c1:clos i xs)(c2:clos i ys):clos i (xs++ys):=iz.mpr λx hx=>(bb.mp hx).elim (iz.mp c1 x) (iz.mp c2 x)
theorem qb(c:clos i xs):clos i (xs.take n):=iz.mpr λx hx=>iz.mp c x (bW hx)
theorem qd(c:clos i xs):clos i (xs.drop n):=iz.mpr λx hx=>iz.mp c x (cO hx)
theorem v9(c:clos i xs):clos i (List.replicate n xs).flatten:=iz.mpr λx hx=>by
 obtain⟨l,hl,hx⟩:=eB.mp hx;rw[(fG.mp hl).2]at hx;exact iz.mp c x hx
theorem vf(c:clos i xs):clo i (xs.getD n .non):=by
 rw[bF]
 cases e:xs[n]? with
 |none=>exact uw
 |some x=>exact iz.mp c x (bB e)
theorem vg:clo i (.rod [] []):=by simp[clo,clos]
theorem aq6:∀u∈([]:List O),yc 0 u:=λu hu=>by cases hu
theorem m9(c:yc 0 o):∀u∈[o],yc 0 u:=λu hu=>by rw[aK]at hu;subst hu;exact c
end
noncomputable def wth(ws:List D)(k:Nat)(d:D):List D:=ws.take k++[d]++ws.drop (k+1)
theorem vh(c:clos i ws)(cd:clo i d):clos i (wth ws k d):=qg (qg (qb c) (bj cd dz)) (qd c)
end EVT
def zds:=@EVT.avq
def ltn:=@EVT.avp
def onn:=@EVT.b1t
def drz:=@EVT.b1u
def nlc:=@EVT.aq6
def nlo:=@EVT.ayt
namespace K16
open L2 MI AT HND EVX
open K20 (a4m vo a2k isInt isStr)
theorem ix0:gIx (.tup (a::xs)) (.int 0) h=.ok a h:=a6q (j:=0) rfl
theorem ix1:gIx (.tup (a::b::xs)) (.int 1) h=.ok b h:=a6q (j:=1) rfl
theorem ix2:gIx (.tup (a::b::c::xs)) (.int 2) h=.ok c h:=a6q (j:=2) rfl
theorem ix3:gIx (.tup (a::b::c::d::xs)) (.int 3) h=.ok d h:=a6q (j:=3) rfl
theorem ax5(x y:Str):hEq (.str x) (.str y) h=.ok (.bl (x == y)) h:=akx x y
theorem a78{x y:Str}{r:List D}{τ:Sd}{h:Hd}:sT (s2 hEq (s2 gIx (sV 0) (sI 0)) (sC (.str y))) (some (.tup (.str x::r))::τ) h=.ok (x == y) h:=t2s (nj rfl ix0) ckk (ax5 x y)
theorem ar0{xs:List D}{τ:Sd}{h:Hd}(n:Nat):s2 hEq (sA kj (aj (sV 0) aq)) (sC (bz n)) (some (.tup xs)::τ) h=.ok (.bl (decide (xs.length=n))) h:=by
 refine jb (jo (bh rfl) ltn) ckk ?_
 by_cases e:xs.length=n
 .rw[ay e];exact xu (by rw[e])
 .rw[ar e];exact wk (by omega)
noncomputable def al6(a b:D):Bool:=a4m 0 4 b && (match b with|.int j=>a4m 0 j a|_=>false)
def uf:SF:=jt (zm K20.jg) 2
theorem ah4{a b:D}(pa:PAP.Pln a)(pb:PAP.Pln b):Pu uf 2 [a,b] (.bl (al6 a b)):=by
 refine K20.a1y rfl (K20.ar2 pa.clo pb.clo) (h':=[]) ?_;unfold uf;rw[du];show toR (zm K20.jg [some a,some b] [])=_;unfold zm al6;have e1:=K20.a77 pb 0 4
 cases hn:a4m 0 4 b with
 |false =>
  rw[hn]at e1;exact ah toR (fu (PAP.a4l (a2x (bh rfl) ckk ckk (e1 _))))
 |true =>
  rw[hn]at e1;obtain⟨j,rfl,_⟩:=K20.aq3 hn;have e2:=K20.a77 pa 0 j;exact ah toR (fu (a1c (a2x (bh rfl) ckk ckk (e1 _)) (a2x (bh rfl) ckk (bh rfl) (e2 _))))
noncomputable def jl:D->Bool
 |.tup [.str x,y]=>if x == "one" then a2k y else if x == "row" then vo 0 6 y else if x == "either" then vo 1 6 y else x == "many"
 |.tup [.str x,_,a,b] => !(x == "one") && (!(x == "row") && (!(x == "either") && (!(x == "many") && (x == "times" && al6 a b))))
 |_=>false
def qt:SF:=jt (a1n uf K20.gw K20.gq) 1
theorem al7{d:D}(p:K20.Deep 1 d):Pu qt 1 [d] (.bl (jl d)):=by
 refine K20.a1y rfl (K20.ar1 p.pln.clo) (h':=[]) ?_;have row:=K20.a2h p.pln 2 4;unfold qt;rw[du];show toR (a1n uf K20.gw K20.gq [some d] [])=_;unfold a1n
 cases hl:vo 2 4 d with
 |false =>
  rw[hl]at row;have e:jl d=false:=by
   unfold jl
   split
   .simp[vo]at hl
   .simp[vo]at hl
   .rfl
  rw[e];exact ah toR (jd (ai (ifT (orT (a0z (iy (a2x (bh rfl) ckk ckk (row _)) (fj _))))) (fu ckk)))
 |true =>
  rw[hl]at row;obtain⟨xs,rfl⟩:∃xs,d=.tup xs:=by cases d<;>first|exact⟨_,rfl⟩|simp[vo]at hl
  have hl:2<=xs.length/\xs.length<=4:=by have:=bL hl;omega
  have pe:∀x∈xs,PAP.Pln x:=λx hx=>(p.2 xs rfl).2 x hx;obtain⟨t,y,r,rfl⟩:∃t y r,xs=t::y::r:=by
   match xs,hl with
   |t::y::r,_=>exact⟨t,y,r,rfl⟩
   |[_],h=>simp at h
   |[],h=>simp at h
  have ist:m5 [t,.ty "str"] []=.ok (.bl (isStr t)) []:=K20.ab8 (pe t (by simp))
  cases ht:isStr t with
  |false =>
   rw[ht]at ist;have e:jl (.tup (t::y::r))=false:=by
    unfold jl
    split
    .rename_i h;injection h with h;injection h with h1 h2;subst h1;simp[isStr]at ht
    .rename_i h;injection h with h;injection h with h1 h2;subst h1;simp[isStr]at ht
    .rfl
   rw[e];exact ah toR (jd (ai (ifT (orF (um (iy (a2x (bh rfl) ckk ckk (row _)) (fj _))) (a0z (iy (lq (nj rfl ix0) ckk ist) (fj _))))) (fu ckk)))
  |true =>
   rw[ht]at ist;obtain⟨x,rfl⟩:∃x,t=.str x:=by cases t<;>first|exact⟨_,rfl⟩|simp[isStr]at ht
   refine eti (orF (um (iy (a2x (bh rfl) ckk ckk (row _)) (fj _))) (um (iy (lq (nj rfl ix0) ckk ist) (fj _)))) ?_;have py:=pe y (by simp)
   have l2:s2 hEq (sA kj (aj (sV 0) aq)) (sI 2) [some (.tup (.str x::y::r))] []=.ok (.bl (decide (r=[]))) []:=by
    have:=ar0 (xs:=.str x::y::r) (τ:=[]) (h:=[]) 2
    refine this.trans ?_
    congr 2
    cases r<;>simp
   have y1:s2 gIx (sV 0) (sI 1) [some (.tup (.str x::y::r))] []=.ok y []:=nj rfl ix1;have two:∀{f:SE} {b:Bool},(f [some (.tup (.str x::y::r))] []=.ok (.bl b) [])->qx (s2 hEq (sA kj (aj (sV 0) aq)) (sI 2)) f [some (.tup (.str x::y::r))] []=.ok (.bl (decide (r=[]) && b)) []:=λ{f b} e=>by
    by_cases hr:r=[]
    .rw[ay hr]at l2 ⊢;exact a1c l2 (by rw[e];rfl)
    .rw[ar hr]at l2 ⊢;exact PAP.a4l l2
   have rr:r.length<=2:=by simp at hl;omega
   by_cases h1:(x == "one")=true
   .refine ah toR (jd (ai (ifT (h1 ▸ a78)) ?_));rw[fu (two (jo y1 (K20.a9v py _)))];have:jl (.tup (.str x::y::r))=(decide (r=[]) && a2k y):=by
     match r,rr with
     |[],_=>simp[jl,h1]
     |[_],_=>simp[jl]
     |[_,_],_=>simp[jl,h1]
    rw[this]
   .have h1:(x == "one")=false:=by simpa using h1
    refine eti (h1 ▸ a78) ?_
    by_cases h2:(x == "row")=true
    .refine ah toR (jd (ai (ifT (h2 ▸ a78)) ?_));rw[fu (two (a2x y1 ckk ckk (K20.a2h py 0 6 _)))];have:jl (.tup (.str x::y::r))=(decide (r=[]) && vo 0 6 y):=by
      match r,rr with
      |[],_=>simp[jl,h1,h2]
      |[_],_=>simp[jl]
      |[_,_],_=>simp[jl,h2]
     rw[this]
    .have h2:(x == "row")=false:=by simpa using h2
     refine eti (h2 ▸ a78) ?_
     by_cases h3:(x == "either")=true
     .refine ah toR (jd (ai (ifT (h3 ▸ a78)) ?_));rw[fu (two (a2x y1 ckk ckk (K20.a2h py 1 6 _)))];have:jl (.tup (.str x::y::r))=(decide (r=[]) && vo 1 6 y):=by
       match r,rr with
       |[],_=>simp[jl,h1,h2,h3]
       |[_],_=>simp[jl]
       |[_,_],_=>simp[jl,h3]
      rw[this]
     .have h3:(x == "either")=false:=by simpa using h3
      refine eti (h3 ▸ a78) ?_
      by_cases h4:(x == "many")=true
      .refine ah toR (jd (ai (ifT (h4 ▸ a78)) ?_));rw[fu l2];have:jl (.tup (.str x::y::r))=decide (r=[]):=by
        match r,rr with
        |[],_=>simp[jl,h1,h2,h3,h4]
        |[_],_=>simp[jl]
        |[_,_],_=>simp[jl,h4]
       rw[this]
      .have h4:(x == "many")=false:=by simpa using h4
       refine eti (h4 ▸ a78) ?_;have tb:s2 hEq (s2 gIx (sV 0) (sI 0)) (sC (.str "times")) [some (.tup (.str x::y::r))] []=.ok (.bl (x == "times")) []:=jb (nj rfl ix0) ckk (ax5 _ _);have l4:=ar0 (xs:=.str x::y::r) (τ:=[]) (h:=[]) 4
       match r,rr with
       |[],_ =>
        have:jl (.tup [.str x,y])=false:=by simp[jl,h1,h2,h3,h4]
        rw[this]
        cases hx:(x == "times") with
        |false=>rw[hx]at tb;exact ah toR (fu (PAP.a4l tb))
        |true=>rw[hx]at tb;exact ah toR (fu (a1c tb (PAP.a4l l4)))
       |[a],_ =>
        have:jl (.tup [.str x,y,a])=false:=by simp[jl]
        rw[this]
        cases hx:(x == "times") with
        |false=>rw[hx]at tb;exact ah toR (fu (PAP.a4l tb))
        |true=>rw[hx]at tb;exact ah toR (fu (a1c tb (PAP.a4l l4)))
       |[a,b],_ =>
        have:jl (.tup [.str x,y,a,b])=(x == "times" && al6 a b):=by simp[jl,h1,h2,h3,h4]
        rw[this]
        cases hx:(x == "times") with
        |false=>rw[hx]at tb;exact ah toR (fu (PAP.a4l tb))
        |true =>
         rw[hx]at tb;exact ah toR (fu (a1c tb (a1c l4 (lq (nj rfl ix2) (nj rfl ix3) (ah4 (pe a (by simp)) (pe b (by simp)) _)))))
end K16
namespace K16
open L2 MI AT HND EVX
open K20 (a4m vo a2k isInt isStr Deep)
noncomputable def inT:D->List D
 |.tup (.str x::y::_)=>if x == "one" then [] else if x == "row" || x == "either" then (match y with|.tup ps=>ps|_=>[]) else [y]
 |_=>[]
theorem a0a{x:Str}{y:D}{r:List D}:inT (.tup (.str x::y::r))=if x == "one" then [] else if x == "row" || x == "either" then (match y with|.tup ps=>ps|_=>[]) else [y]:=rfl
noncomputable def pcl(f:Nat->D->Nat)(m:Nat):List D->Nat->Nat
 |[],c=>c
 |x::xs,c=>if f (m-c) x=0 then 0 else pcl f m xs (c+f (m-c) x)
noncomputable def pc:Nat->Nat->D->Nat
 |0,_,_=>0
 |d+1,m,t=>if m=0\/jl t=false then 0 else pcl (pc d) m (inT t) 1
theorem an3{f:Nat->D->Nat}{m:Nat}(h:∀n x,f n x<=n):∀(xs:List D) (c:Nat),c<=m->pcl f m xs c<=m
 |[],c,hc=>hc
 |x::xs,c,hc=>by
  rw[pcl]
  split
  .omega
  .exact an3 h xs _ (by have:=h (m-c) x;omega)
theorem avr:∀(d m:Nat) (t:D),pc d m t<=m
 |0,m,t=>bH _
 |d+1,m,t=>by
  rw[pc]
  split
  .omega
  .rename_i h;exact an3 (avr d) _ _ (by have:m≠0:=λz=>h (.inl z);omega)
theorem a2i{t:D}(h:jl t=true):∃x y r,t=.tup (.str x::y::r)/\(((x == "row")=true\/(x == "either")=true)->∃ps,y=.tup ps/\ps.length<=6):=by
 unfold jl at h
 split at h
 .rename_i x y;refine⟨x,y,[],rfl,λe=>?_⟩;have no:∀z:Str,(x == z)=true->x=z:=λz q=>by simpa using q
  rcases e with e|e
  .have:(x == "one")=false:=by rw[no _ e];decide +kernel
   rw[this,e]at h;simp only[cK,eP,ef]at h
   cases y<;>first|(simp[vo]at h;done)|skip
   rename_i ps;exact⟨ps,rfl,by have:=bL h;omega⟩
  .have h1:(x == "one")=false:=by rw[no _ e];decide +kernel
   have h2:(x == "row")=false:=by rw[no _ e];decide +kernel
   rw[h1,h2,e]at h;simp only[cK,eP,ef]at h
   cases y<;>first|(simp[vo]at h;done)|skip
   rename_i ps;exact⟨ps,rfl,by have:=bL h;omega⟩
 .rename_i x y a b;refine⟨x,y,[a,b],rfl,λe=>?_⟩
  rcases e with e|e<;>simp[e]at h
 .simp at h
theorem a4n{n:Nat}{t p:D}(k:Deep (n+2) t)(h:jl t=true)(hp:p∈inT t):Deep n p:=by
 obtain⟨x,y,r,rfl,ys⟩:=a2i h;have ky:=(k.2 _ rfl).2 y (by simp)
 rw[a0a]at hp
 split at hp
 .simp at hp
 .split at hp
  .rename_i e;obtain⟨ps,rfl,_⟩:=ys (by simpa[cC] using e)
   exact(ky.2 _ rfl).2 p hp
  .rw[aK.mp hp];exact ky.down
theorem ah5{t:D}(h:jl t=true):(inT t).length<=6:=by
 obtain⟨x,y,r,rfl,ys⟩:=a2i h;rw[a0a]
 split
 .simp
 .split
  .rename_i e;obtain⟨ps,rfl,l⟩:=ys (by simpa[cC] using e)
   exact l
  .simp
theorem avs{t:D}(p:Deep 2 t)(h:jl t=true):clos 0 (inT t):=iz.mpr λx hx=>(a4n (n:=0) p h hx).pln.clo
def je:SF:=jt a6a 1
theorem a6f{t:D}(p:Deep 2 t)(h:jl t=true):Pu je 1 [t] (.tup (inT t)):=by
 have c:=jc (avs p h);obtain⟨x,y,r,rfl,ys⟩:=a2i h;refine Pu.of rfl (K20.ar1 p.pln.clo) (r:=.ok (.tup (inT (.tup (.str x::y::r)))) []) ?_ (km c (by simp)) c
 unfold je;rw[du];show toR (a6a [some (.tup (.str x::y::r))] [])=_;unfold a6a;rw[a0a]
 by_cases h1:(x == "one")=true
 .rw[av h1];refine ah toR (jd (ai (ifT (h1 ▸ a78)) ?_));exact fu (av4 PAP.a5g)
 .have h1':(x == "one")=false:=by simpa using h1
  rw[aO h1];refine eti (h1' ▸ a78) ?_
  by_cases h2:(x == "row")=true
  .obtain⟨ps,rfl,_⟩:=ys (.inl h2);rw[h2,Bool.true_or,av rfl];refine ah toR (jd (ai (ifT (orT (h2 ▸ a78))) ?_));exact fu (nj rfl ix1)
  .have h2':(x == "row")=false:=by simpa using h2
   by_cases h3:(x == "either")=true
   .obtain⟨ps,rfl,_⟩:=ys (.inr h3);rw[h3,Bool.or_true,av rfl];refine ah toR (jd (ai (ifT (orF (h2' ▸ a78) (h3 ▸ a78))) ?_));exact fu (nj rfl ix1)
   .have h3':(x == "either")=false:=by simpa using h3
    rw[h2',h3',eE,aO aU];refine eti (orF (h2' ▸ a78) (h3' ▸ a78)) ?_;exact ah toR (fu (jo (nj rfl ix1) PAP.a3w))
def gj:Nat->SF
 |0=>λ_ _=>.no
 |n+1=>jt (v6 je qt (gj n)) 6
theorem avt{a b:Nat}{h:Hd}(l:b<=a):MI.a3h (bz a) (bz b) h=.ok (bz (a-b)) h:=by
 rw[ym];exact ah (λz=>R.ok (D.int z) h) (by omega)
theorem ah6(xs:List D)(h:Hd):aje (.tup xs) h=.ok ⟨xs,λ_=>True⟩ h:=rfl
theorem aba{f:Nat->D->Nat}{m:Nat}:∀(a b:List D) (c k:Nat),pcl f m a c=k->k≠0->pcl f m (a++b) c=pcl f m b k
 |[],b,c,k,h,_=>by rw[pcl]at h;subst h;rfl
 |x::a,b,c,k,h,hk=>by
  rw[pcl]at h;rw[dH,pcl]
  split at h
  .exact absurd h.symm hk
  .rename_i q;rw[aO q];exact aba a b _ k h hk
theorem a9w:∀{n d m:Nat} {t:D},Deep (2*d) t->d<n->Pu (gj n) 3 [t,bz d,bz m] (bz (pc d m t))
 |0,d,m,t,k,h=>absurd h (by omega)
 |n+1,d,m,t,k,h=>by
  refine Pu.of rfl (K20.ar3 k.pln.clo (dh _) (dh _)) (r:=.ok (bz (pc d m t)) []) ?_ (km (dh _) (by simp)) (dh _)
  rw[gj,du];show toR (v6 je qt (gj n) [some t,some (bz d),some (bz m),none,none,none] [])=_;unfold v6
  cases d with
  |zero=>exact ah toR (jd (ai (ifT (orT (tvc rfl (acv (by simp))))) (fu ckk)))
  |succ d =>
   have k2:Deep (2*d+2) t:=k;have dn:∀{a b:Nat} {u:D},Deep (a+b) u->Deep a u:=λ{a b u} q=>by
    induction b with
    |zero=>exact q
    |succ b ihb=>exact ihb q.down
   have kf:Deep 1 t:=dn (a:=1) (b:=2*d+1) (by rwa[eS 1])
   have k3:Deep 2 t:=dn (a:=2) (b:=2*d) (by rwa[eS 2])
   have fo:=al7 kf;rw[pc]
   by_cases m0:m=0
   .rw[av (.inl m0)];exact ah toR (jd (ai (ifT (orF (tvc rfl (a9q (by omega))) (orT (tvc rfl (acv (by omega)))))) (fu ckk)))
   .cases hf:jl t with
    |false =>
     rw[hf]at fo;rw[av (.inr rfl)];exact ah toR (jd (ai (ifT (orF (tvc rfl (a9q (by omega))) (orF (tvc rfl (a9q (by omega))) (a0z (iy (jo (bh rfl) (fo _)) (fj _)))))) (fu ckk)))
    |true =>
     rw[hf]at fo;rw[aO (by simp[m0])]
     have inn:=a6f k3 hf;refine eti (orF (tvc rfl (a9q (by omega))) (orF (tvc rfl (a9q (by omega))) (um (iy (jo (bh rfl) (fo _)) (fj _))))) ?_
     refine etr (j9 ckk) ?_;refine etr (a9o (a75 (jo (bh rfl) (inn _)) (ah6 _ _))) ?_;have lp:=a3r (g:=kN 4) (b:=p6 je qt (gj n)) (λx:D=>x)
      (λpre τ hh=>∃(c:Nat) (a b:Option D),τ=[some t,some (bz (d+1)),some (bz m),some (bz c),a,b]/\hh=[]/\c<=m/\c≠0/\pcl (pc d) m pre 1=c)
      (λv hh=>v=.int 0/\hh=[]/\pcl (pc d) m (inT t) 1=0)
      (inT t) [] [some t,some (bz (d+1)),some (bz m),some (.int 1),none,none] [] ?_ ⟨1,none,none,rfl,rfl,by omega,by omega,rfl⟩
     .rw[dE]at lp
      rcases lp with⟨τ',h',e',c,a,b,rfl,rfl,_,_,pe⟩|⟨v,h',e',rfl,rfl,pe⟩
      .refine ai (ah (λz=>toR (thn z _)) e') ?_;rw[bG]at pe;rw[a1l,pe];exact ah toR (fu (bh rfl))
      .refine ai (ah (λz=>toR (thn z _)) e') ?_;rw[a5y,pe];rfl
     .rintro pre x post τ hh all ⟨c,a,b,rfl,rfl,cm,c0,pe⟩
      rw[bG]at all;have xm:x∈inT t:=by rw[all];simp
      have ih:=a9w (n:=n) (d:=d) (m:=m-c) (a4n (n:=2*d) k2 hf xm) (by omega)
      refine⟨_,_,rfl,?_⟩;have sx:pcl (pc d) m (pre++x::post) 1=pcl (pc d) m (x::post) c:=aba _ _ _ _ pe c0;have st:∀g:SS,gh (j5 5 (sA (gm false 3 (gj n)) (aj (sV 4) (aj (s2 MI.a3h (sV 1) (sI 1)) (aj (s2 MI.a3h (sV 2) (sV 3)) aq))))) g [some t,some (bz (d+1)),some (bz m),some (bz c),some x,b] []=g [some t,some (bz (d+1)),some (bz m),some (bz c),some x,some (bz (pc d (m-c) x))] []:=λg =>
       j9 (a2x (bh rfl) (nj rfl (avt (a:=d+1) (b:=1) (by omega))) (jb (bh rfl) (bh rfl) (avt cm)) (ih _))
      by_cases z:pc d (m-c) x=0
      .refine .inr ⟨.int 0,[],?_,rfl,rfl,?_⟩
       .unfold p6;refine ai (st _) ?_;exact jd (ai (ifT (tvc rfl (xu (by omega)))) (fu ckk))
       .rw[all,sx,pcl,av z]
      .refine .inl ⟨[some t,some (bz (d+1)),some (bz m),some (bz (c+pc d (m-c) x)),some x,some (bz (pc d (m-c) x))],[],?_,c+pc d (m-c) x,_,_,rfl,rfl,by have:=avr d (m-c) x;omega,by omega,?_⟩
       .unfold p6;refine ai (st _) ?_;refine ai (ifN (tvc rfl (wk (by omega)))) ?_
        refine ai (ae6 rfl (bh rfl) a2w) ?_;rfl
       .have:=aba (f:=pc d) (m:=m) pre [x] 1 c pe c0
        rw[this,pcl,aO z,pcl]
def aid(t:D):Bool:=decide (0<pc 5 24 t)
def jx:SF:=jt (a0o (gj 6)) 1
theorem ah7{t:D}(k:Deep 10 t):Pu jx 1 [t] (.bl (aid t)):=by
 refine K20.a1y rfl (K20.ar1 k.pln.clo) (h':=[]) ?_;unfold jx;rw[du];show toR (a0o (gj 6) [some t] [])=_;unfold a0o;have p:Pu (gj 6) 3 [t,.int 5,.int 24] (bz (pc 5 24 t)):=a9w (n:=6) (d:=5) (m:=24) k (by decide)
 refine ah toR (fu (jb (a2x (bh rfl) ckk ckk (p _)) ckk ?_));unfold aid
 by_cases z:0<pc 5 24 t
 .rw[ay z];exact acs (by omega)
 .rw[ar z];exact acu (by omega)
noncomputable def a3e(c:Nat):Bool:=decide (97<=c) && decide (c<=122)
noncomputable def an4(l:List Nat):Bool:=decide (1<=l.length/\l.length<=8) && l.all a3e
noncomputable def ah8:D->Bool|.str x=>an4 x.cps.toList|_=>false
theorem avu(l:List Nat):ah8 (.str (S l))=an4 l:=by simp only[ah8,yu]
theorem avv(c:Nat)(τ:Sd)(h:Hd):sCh gLe gLe (sC (.str "a")) (sV 0) (sC (.str "z")) (some (.str (S [c]))::τ) h=.ok (.bl (a3e c)) h:=by
 have e1:gLe (.str "a") (.str (S [c])) h=.ok (.bl (decide (97<=c))) h:=K20.al5 97 c h;have e2:gLe (.str (S [c])) (.str "z") h=.ok (.bl (decide (c<=122))) h:=K20.al5 c 122 h;unfold sCh a3e;rw[a6o,bw,bh rfl,bw,e1,bw]
 cases decide (97<=c) with
 |true =>
  dsimp only;rw[a6o,bw,e2,bM]
 |false=>rfl
def mz:SF:=jt a1v 1
theorem al8{d:D}(p:PAP.Pln d):Pu mz 1 [d] (.bl (ah8 d)):=by
 refine K20.a1y rfl (K20.ar1 p.clo) (h':=[]) ?_;unfold mz;rw[du];show toR (a1v [some d] [])=_;unfold a1v;have a1:sA m5 (aj (sV 0) (aj (sC (.ty "str")) aq)) [some d] []=.ok (.bl (isStr d)) []:=lq (bh rfl) ckk (K20.ab8 p)
 cases hs:isStr d with
 |true =>
  obtain⟨x,rfl⟩:∃x,d=.str x:=by cases d<;>first|exact⟨_,rfl⟩|simp[isStr]at hs
  rw[hs]at a1;have xl:x.cps.toList.length<=1000:=p;rw[<-a1b x]at a1 ⊢
  generalize x.cps.toList=l at xl a1
  rw[avu];have ln:∀hh,kj [.str (S l)] hh=.ok (.int (l.length:Nat)) hh:=λhh=>a4z (bx (by omega))
  have ch:=K20.ab9 (f:=sC (.int 1)) (g:=sA kj (aj (sV 0) aq)) (k:=sC (.int 8)) (τ:=[some (.str (S l))]) (h:=[]) ckk (jo (bh rfl) (ln _)) ckk
  by_cases hl:1<=l.length/\l.length<=8
  .rw[ay (by omega)]at ch
   refine eti (orF (um (iy a1 (fj _))) (um (tof ch))) ?_;have al:=K20.acz (fi:=sIt (sV 0)) (ce:=a1u) (ix:=[]) (τ:=[some (.str (S l))]) (xs:=l.map λc=>.str (S [c])) (P:=λd=>match d with|.str x=>x.cps.toList.all a3e|_=>false) (a75 (bh rfl) (PAP.ax3 l _)) (by rw[aJ];omega) λx hx=>by
    obtain⟨c,_,rfl⟩:=bD.mp hx;rw[v5];refine(avv c _ _).trans ?_;simp only[yu,bC,cZ,cF]
   have ea:(l.map λc=>D.str (S [c])).all (λd=>match d with|.str x=>x.cps.toList.all a3e|_=>false)=l.all a3e:=by
    rw[dU]
    congr 1
    funext c
    simp only[Function.comp,yu,bC,cZ,cF]
   rw[ea]at al;unfold an4;rw[ay hl,bM];exact ah toR (fu al)
  .rw[ar (by omega)]at ch
   unfold an4;rw[ar hl,dI];exact ah toR (jd (ai (ifT (orF (um (iy a1 (fj _))) (a0z (tof ch)))) (fu ckk)))
 |false =>
  rw[hs]at a1;have:ah8 d=false:=by cases d<;>first|rfl|simp[isStr]at hs
  rw[this];exact ah toR (jd (ai (ifT (orT (a0z (iy a1 (fj _))))) (fu ckk)))
def Shp:Nat->D->Prop
 |0,_=>False
 |d+1,t=>jl t=true/\∀x∈inT t,Shp d x
theorem ah9{f:Nat->D->Nat}{m:Nat}:∀{xs:List D} {c:Nat},c≠0->pcl f m xs c≠0->∀x∈xs,∃n,f n x≠0
 |y::ys,c,hc,h,x,hx=>by
  rw[pcl]at h
  split at h
  .exact absurd rfl h
  .rename_i q
   rcases aZ.mp hx with rfl|hx
   .exact⟨_,q⟩
   .exact ah9 (by omega) h x hx
theorem an5:∀{d m:Nat} {t:D},pc d m t≠0->Shp d t
 |0,m,t,h=>absurd rfl h
 |d+1,m,t,h=>by
  rw[pc]at h
  split at h
  .exact absurd rfl h
  .rename_i q;refine⟨by cases hf:jl t with|true=>rfl|false=>exact absurd (.inr hf) q,λx hx=>?_⟩
   obtain⟨n,hn⟩:=ah9 (by omega) h x hx
   exact an5 hn
noncomputable def po:Nat->D->List D
 |0,t=>[t]
 |d+1,t=>t::((inT t).map (po d)).flatten
theorem abb{α β:Type}{f:α->List β}{n:Nat}:∀{xs:List α},(∀x∈xs,(f x).length<=n)->((xs.map f).flatten).length<=xs.length*n
 |[],_=>by simp
 |x::xs,h=>by
  have a:=h x (by simp)
  have b:=abb (xs:=xs) (λy hy=>h y (by simp[hy]))
  simp only[bg,bU,ae,aL,dS];omega
theorem ad0:∀{d:Nat} {t:D},Shp d t->(po d t).length<=7^d
 |0,t,k=>k.elim
 |d+1,t,k=>by
  have a:=abb (f:=po d) (n:=7^d) λx hx=>ad0 (k.2 x hx);have b:=ah5 k.1;have c:(inT t).length*7^d<=6*7^d:=bK _ b;have e:0<7^d:=Nat.pow_pos (by decide)
  rw[po,aL,g7];omega
theorem an6:∀{d:Nat} {t:D},Shp d t->Deep (2*d) t->clos 0 (po d t)
 |0,t,k,_=>k.elim
 |d+1,t,k,p=>by
  rw[po];refine bj p.pln.clo (iz.mpr λx hx=>?_);obtain⟨l,hl,hx⟩:=eB.mp hx;obtain⟨y,hy,rfl⟩:=bD.mp hl;exact iz.mp (an6 (k.2 y hy) (a4n (n:=2*d) p k.1 hy)) x hx
def ie:Nat->SF
 |0=>λ_ _=>.no
 |n+1=>jt (a0p je (ie n)) 3
theorem aha:∀{n d:Nat} {t:D},Shp d t->Deep (2*d) t->d<=n->d<=5->Pu (ie n) 1 [t] (.tup (po d t))
 |n,0,t,k,_,_,_=>k.elim
 |0,d+1,t,_,_,h,_=>absurd h (by omega)
 |n+1,d+1,t,k,p,h,h5=>by
  have c:=jc (an6 k p);have dn:∀{a b:Nat} {u:D},Deep (a+b) u->Deep a u:=λ{a b u} q=>by
   induction b with
   |zero=>exact q
   |succ b ihb=>exact ihb q.down
  have p':Deep (2*d+2) t:=p;have inn:=a6f (dn (a:=2) (b:=2*d) (by rwa[eS 2])) k.1
  refine Pu.of rfl (K20.ar1 p.pln.clo) (r:=.ok (.tup (po (d+1) t)) [.lst (po (d+1) t)]) ?_ (km (a5z (bH _) c) (by simp)) c
  rw[ie,du];show toR (a0p je (ie n) [some t,none,none] [])=_;unfold a0p;refine etr (j9 (d:=.ref 0) (h1:=[.lst [t]]) rfl) ?_;refine etr (a9o (a75 (jo (bh rfl) (inn _)) (ah6 _ _))) ?_;have lp:=a3s (g:=kN 2) (b:=yx je (ie n)) (λx:D=>x)
   (λpre τ hh=>∃a:Option D,τ=[some t,some (.ref 0),a]/\hh=[.lst (t::(pre.map (po d)).flatten)])
   (inT t) [some t,some (.ref 0),none] [.lst [t]] ?_ ⟨none,rfl,rfl⟩
  .rw[dE]at lp;obtain⟨τ',h',e',a,rfl,rfl⟩:=lp;refine ai (ah (λz=>toR (thn z _)) e') ?_;rw[a1l];have gt:u5 [.ref 0] [.lst (po (d+1) t)]=.ok (.tup (po (d+1) t)) [.lst (po (d+1) t)]:=rfl;exact ah toR (fu (jo (bh rfl) gt))
  .rintro pre x post τ hh all ⟨a,rfl,rfl⟩
   have xm:x∈inT t:=by rw[all];simp
   have ih:=aha (n:=n) (d:=d) (k.2 x xm) (a4n (n:=2*d) p' k.1 xm) (by omega) (by omega)
   refine⟨_,_,rfl,[some t,some (.ref 0),some x],[.lst (t::((pre++[x]).map (po d)).flatten)],?_,some x,rfl,rfl⟩;unfold yx;have l1:=ad0 (k.2 x xm);have l2:=abb (f:=po d) (n:=7^d) (xs:=pre) λy hy=>ad0 (k.2 y (by rw[all];simp[hy]))
   have l3:pre.length<=6:=by have:=ah5 k.1;rw[all]at this;simp at this;omega
   have l4:pre.length*7^d<=6*7^d:=bK _ l3;have l5:7^d<=7^4:=Nat.pow_le_pow_right (by decide) (by omega)
   have l6:(7:Nat)^4=2401:=rfl;have ex:agd (.ref 0) [.tup (po d x)] [.lst (t::(pre.map (po d)).flatten)]=.ok .non [.lst (t::((pre++[x]).map (po d)).flatten)]:=by
    unfold agd;simp only[eH,xn];rw[av (bx (by simp only[aL];omega))]
    simp
   exact a9n (bh rfl) rfl (arg1 (jo (bh rfl) (ih _))) ex
noncomputable def a79(tg l:List Nat):Bool:=l.all λc=>decide (c∈tg)
def m7:SF:=jt a1p 2
theorem al9{tg l:List Nat}(hl:l.length<=1000):Pu m7 2 [.str (S tg),.str (S l)] (.bl (a79 tg l)):=by
 refine K20.a1y rfl (K20.ar2 (cu _) (cu _)) (h':=[]) ?_;unfold m7;rw[du];show toR (a1p [some (.str (S tg)),some (.str (S l))] [])=_;unfold a1p;have i:m5 [.str (S l),.ty "str"] []=.ok (.bl true) []:=by simp[m5,amk,tyD,ai9]
 have al:=K20.acz (fi:=sIt (sV 1)) (ce:=a1o) (ix:=[0]) (τ:=[some (.str (S tg)),some (.str (S l))]) (xs:=l.map λc=>.str (S [c])) (P:=λd=>match d with|.str x=>x.cps.toList.all (λc=>decide (c∈tg))|_=>false) (a75 (bh rfl) (PAP.ax3 l _)) (by rw[aJ];omega) λx hx=>by
  obtain⟨c,_,rfl⟩:=bD.mp hx;rw[v5];refine(jb (bh rfl) (bh rfl) (K20.ax4 false c tg _)).trans ?_;simp only[yu,bC,cZ,cF,cK,eP]
 have ea:(l.map λc=>D.str (S [c])).all (λd=>match d with|.str x=>x.cps.toList.all (λc=>decide (c∈tg))|_=>false)=a79 tg l:=by
  rw[dU];unfold a79
  congr 1
  funext c
  simp only[Function.comp,yu,bC,cZ,cF]
 rw[ea]at al;exact ah toR (fu (a1c (lq (bh rfl) ckk i) al))
noncomputable def onS:D->Option (List Nat)
 |.tup (.str x::.str y::_)=>if x == "one" then some y.cps.toList else none
 |_=>none
theorem aq7{t:D}(h:jl t=true):∃x y r,t=.tup (.str x::y::r)/\((x == "one")=true->∃l:List Nat,y=.str (S l)/\l.length<=6/\onS t=some l)/\((x == "one")=false->onS t=none):=by
 obtain⟨x,y,r,rfl,ys⟩:=a2i h
 clear ys
 refine⟨x,y,r,rfl,λe=>?_,λe=>?_⟩
 .unfold jl at h
  split at h
  .rename_i x' y' he
   injection he with he;injection he with h1 h2;injection h1 with h1;injection h2 with h2 h3
   subst h1;subst h2;rw[e,av rfl]at h
   cases y<;>first|(simp[a2k]at h;done)|skip
   rename_i z;refine⟨z.cps.toList,by rw[a1b],?_,?_⟩
   .unfold a2k K20.aa6 at h;simp only[af,aW]at h;omega
   .show(if (x == "one")=true then some z.cps.toList else none)=_
    rw[av e]
  .rename_i x' y' a b he
   injection he with he;injection he with h1 h2;injection h1 with h1
   subst h1;simp[e]at h
  .simp at h
 .cases y<;>first|rfl|skip
  show(if (x == "one")=true then some _ else none)=none
  rw[aO (by rw[e];decide)]
theorem an7:∀{d:Nat} {t:D},Shp d t->∀p∈po d t,jl p=true
 |0,t,k,_,_=>k.elim
 |d+1,t,k,p,hp=>by
  rw[po]at hp
  rcases aZ.mp hp with rfl|hp
  .exact k.1
  .obtain⟨l,hl,hp⟩:=eB.mp hp;obtain⟨y,hy,rfl⟩:=bD.mp hl;exact an7 (k.2 y hy) p hp
noncomputable def a9x(tg:List Nat):D->Bool
 |.tup [n,s]=>ah8 n && (aid s && ((po 5 s).filterMap onS).all (a79 tg))
 |_=>false
def n6:SF:=jt (a1t mz K20.gw jx m7 (ie 5)) 2
theorem ala{tg:List Nat}{d:D}(p:Deep 11 d):Pu n6 2 [.str (S tg),d] (.bl (a9x tg d)):=by
 refine K20.a1y rfl (K20.ar2 (cu _) p.pln.clo) (h':=[]) ?_;have row:=K20.a2h p.pln 2 2;unfold n6;rw[du];show toR (a1t mz K20.gw jx m7 (ie 5) [some (.str (S tg)),some d] [])=_;unfold a1t
 cases hl:vo 2 2 d with
 |false =>
  rw[hl]at row;have e:a9x tg d=false:=by
   unfold a9x
   split
   .simp[vo]at hl
   .rfl
  rw[e];exact ah toR (jd (ai (ifT (orT (a0z (iy (a2x (bh rfl) ckk ckk (row _)) (fj _))))) (fu ckk)))
 |true =>
  rw[hl]at row;obtain⟨n,s,rfl⟩:∃n s,d=.tup [n,s]:=by
   cases d<;>first|(simp[vo]at hl;done)|skip
   rename_i xs;have hl:=bL hl
   match xs,hl with
   |[n,s],_=>exact⟨n,s,rfl⟩
   |[],h=>simp at h
   |[_],h=>simp at h
   |_::_::_::_,h=>simp at h;omega
  have pn:=((p.2 _ rfl).2 n (by simp)).pln
  have ps:Deep 10 s:=(p.2 _ rfl).2 s (by simp)
  have e1:=al8 pn;have e2:=ah7 ps;have g0:∀h:Hd,s2 gIx (sV 1) (sI 0) [some (.str (S tg)),some (.tup [n,s])] h=.ok n h:=λh=>nj rfl ix0;have g1:∀h:Hd,s2 gIx (sV 1) (sI 1) [some (.str (S tg)),some (.tup [n,s])] h=.ok s h:=λh=>nj rfl ix1;show _=R.ok (D.bl (ah8 n && (aid s && ((po 5 s).filterMap onS).all (a79 tg)))) []
  cases hn:ah8 n with
  |false =>
   rw[hn]at e1;exact ah toR (jd (ai (ifT (orF (um (iy (a2x (bh rfl) ckk ckk (row _)) (fj _))) (orT (a0z (iy (jo (g0 _) (e1 _)) (fj _)))))) (fu ckk)))
  |true =>
   rw[hn]at e1
   cases hs:aid s with
   |false =>
    rw[hs]at e2;exact ah toR (jd (ai (ifT (orF (um (iy (a2x (bh rfl) ckk ckk (row _)) (fj _))) (orF (um (iy (jo (g0 _) (e1 _)) (fj _))) (a0z (iy (jo (g1 _) (e2 _)) (fj _)))))) (fu ckk)))
   |true =>
    rw[hs]at e2;have sh:Shp 5 s:=an5 (m:=24) (by have:=bL hs;omega)
    have po:=aha (n:=5) sh ps (a9 _) (a9 _);refine eti (orF (um (iy (a2x (bh rfl) ckk ckk (row _)) (fj _))) (orF (um (iy (jo (g0 _) (e1 _)) (fj _))) (um (iy (jo (g1 _) (e2 _)) (fj _))))) ?_;have pl:=ad0 sh;have l7:(7:Nat)^5=16807:=rfl;have cz:sZ (a1g (sIt (sA (gm false 1 (ie 5)) (aj (s2 gIx (sV 1) (sI 1)) aq))) t1 (a08 mz K20.gw jx m7 (ie 5)) (a07 mz K20.gw jx m7 (ie 5)) [0]) [some (.str (S tg)),some (.tup [n,s])] []=.ok (.rol (((K16.po 5 s).filterMap λp=>(onS p).map λl=>D.bl (a79 tg l)))) []:=by
     refine a4x (a67 (λx:D=>x) (λp=>(onS p).map λl=>D.bl (a79 tg l)) (K16.po 5 s) ?_ (bx (by omega)) λq hq=>?_) ?_ (by simp)
     .rw[dE];exact a75 (jo (g1 _) (po _)) (ah6 _ _)
     .obtain⟨x,y,r,rfl,y1,y2⟩:=aq7 (an7 sh q hq);rw[ab4];unfold a08 a07;show R.bind (sT (s2 hEq (s2 gIx (sV 0) (sI 0)) (sC (.str "one"))) (some (.tup (.str x::y::r))::[some (.str (S tg))]) []) _=_;rw[a78,bw]
      cases hx:(x == "one") with
      |false=>rw[y2 hx];rfl
      |true =>
       obtain⟨l,rfl,l6,e⟩:=y1 hx;rw[e];simp only[ef];show R.bind (sA (gm false 2 m7) (aj (sV 1) (aj (s2 gIx (sV 0) (sI 1)) aq)) (some (.tup (.str x::.str (S l)::r))::[some (.str (S tg))]) []) _=_;rw[lq (bh rfl) (nj rfl ix1) (al9 (tg:=tg) (l:=l) (by omega) _),bw]
       rfl
     .refine iz.mpr λz hz=>?_;obtain⟨q,_,e⟩:=cX.mp hz
      cases ho:onS q with
      |none=>rw[ho]at e;simp at e
      |some l=>rw[ho]at e;simp at e;subst e;exact uv _
    have fm:((K16.po 5 s).filterMap λp=>(onS p).map λl=>D.bl (a79 tg l))=(((K16.po 5 s).filterMap onS).map (a79 tg)).map D.bl:=by
     rw[cQ,List.map_filterMap];rfl
    rw[fm]at cz;refine ah toR (fu (jo cz ?_));rw[PAP.an0,dU];rfl
theorem ahb:∀(l ns:List Str),(l.foldl stepT ns).length<=ns.length+l.length
 |[],ns=>by simp
 |k::l,ns=>by
  have a:=ahb l (stepT ns k);have b:(stepT ns k).length<=ns.length+1:=by unfold stepT;split<;>simp
  rw[dC,aL];omega
theorem ahc:∀(l ns:List Str),ns.Nodup->((l.foldl stepT ns).length=ns.length+l.length↔(ns++l).Nodup)
 |[],ns,h=>by simp[h]
 |k::l,ns,h=>by
  rw[dC,aL]
  by_cases m:k∈ns
  .have e:stepT ns k=ns:=av m;rw[e]
   constructor
   .intro z;have:=ahb l ns;omega
   .intro z
    rw[bA]at z;exact absurd rfl (z.2.2 k m k (by simp))
  .have e:stepT ns k=ns++[k]:=aO m;have nd:(ns++[k]).Nodup:=by
    rw[bA];exact⟨h,by simp,λa ha b hb z=>by rw[aK]at hb;subst hb;subst z;exact m ha⟩
   have:=ahc l (ns++[k]) nd
   rw[ae,aE,dZ]at this;rw[e,show ns.length+(l.length+1)=ns.length+1+l.length by omega]
   exact this
theorem ad1{f:D->Hd->R D}:∀(rs:List (Str×D)) (ns:List Str),ns.length+rs.length<=60->(∀p∈rs,f (.tup [.str p.1,p.2]) []=.ok (.str p.1) [])->
  MI.akq (λ_=>True) f (rs.map λp=>.tup [.str p.1,p.2]) ns []=.ok ((rs.map Prod.fst).foldl stepT ns) []
 |[],ns,_,_=>by rw[cY,MI.akq,av trivial];rfl
 |p::rs,ns,h,st=>by
  have b:(stepT ns p.1).length<=ns.length+1:=by unfold stepT;split<;>simp
  rw[aL]at h;rw[bg,MI.akq,av trivial,st p (by simp),bw]
  show(if ns.length<63 then _ else R.no)=_
  rw[av (by omega)]
  exact ad1 rs _ (by omega) λq hq=>st q (by simp[hq])
noncomputable def nmO:D->Option Str|.tup (.str x::_)=>some x|_=>none
noncomputable def a7a:D->Bool
 |.tup [.str t,.tup rs]=>K20.aa6 t.cps.toList && (decide (rs.length<=6) && (rs.all (a9x t.cps.toList) && decide (rs.filterMap nmO).Nodup))
 |_=>false
theorem ad2{tg:List Nat}{d:D}(h:a9x tg d=true):∃x s,d=.tup [.str x,s]:=by
 unfold a9x at h
 split at h
 .rename_i n s;simp only[af]at h
  cases n<;>first|(simp[ah8]at h;done)|exact⟨_,_,rfl⟩
 .simp at h
theorem a9y{tg:List Nat}:∀{rs:List D},rs.all (a9x tg)=true->∃ps:List (Str×D),rs=ps.map (λp=>.tup [.str p.1,p.2])/\rs.filterMap nmO=ps.map Prod.fst
 |[],_=>⟨[],rfl,rfl⟩
 |d::rs,h=>by
  rw[bC,af]at h;obtain⟨x,s,rfl⟩:=ad2 h.1;obtain⟨ps,e1,e2⟩:=a9y h.2;exact⟨(x,s)::ps,by rw[bg,<-e1],by rw[bg,<-e2];rfl⟩
def jm:SF:=jt (zp K20.gq) 1
theorem aea{d:D}(p:PAP.Pln d):Pu jm 1 [d] (.bl (a2k d)):=by
 refine K20.a1y rfl (K20.ar1 p.clo) (h':=[]) ?_;unfold jm;rw[du];show toR (zp K20.gq [some d] [])=_;unfold zp;exact ah toR (fu (jo (bh rfl) (K20.a9v p _)))
def n8:SF:=jt (a1s K20.gw n6 jm) 3
theorem ad3{d:D}(p:Deep 13 d):Pu n8 1 [d] (.bl (a7a d)):=by
 refine K20.a1y rfl (K20.ar1 p.pln.clo) (h':=[]) ?_;have row:=K20.a2h p.pln 2 2;unfold n8;rw[du];show toR (a1s K20.gw n6 jm [some d,none,none] [])=_;unfold a1s
 cases hl:vo 2 2 d with
 |false =>
  rw[hl]at row;have e:a7a d=false:=by
   unfold a7a
   split
   .simp[vo]at hl
   .rfl
  rw[e];exact ah toR (jd (ai (ifT (orT (a0z (iy (a2x (bh rfl) ckk ckk (row _)) (fj _))))) (fu ckk)))
 |true =>
  rw[hl]at row;obtain⟨t,rs,rfl⟩:∃n s,d=.tup [n,s]:=by
   cases d<;>first|(simp[vo]at hl;done)|skip
   rename_i xs;have hl:=bL hl
   match xs,hl with
   |[n,s],_=>exact⟨n,s,rfl⟩
   |[],h=>simp at h
   |[_],h=>simp at h
   |_::_::_::_,h=>simp at h;omega
  have pt:=((p.2 _ rfl).2 t (by simp)).pln
  have pr:Deep 12 rs:=(p.2 _ rfl).2 rs (by simp)
  have e1:=aea pt;have e2:=K20.a2h pr.pln 0 6;have g0:∀(h:Hd),s2 gIx (sV 0) (sI 0) [some (.tup [t,rs]),none,none] h=.ok t h:=λh=>nj rfl ix0;have g1:∀(h:Hd),s2 gIx (sV 0) (sI 1) [some (.tup [t,rs]),none,none] h=.ok rs h:=λh=>nj rfl ix1
  cases ht:a2k t with
  |false =>
   rw[ht]at e1;have e:a7a (.tup [t,rs])=false:=by
    unfold a7a
    split
    .rename_i h;injection h with h;injection h with h1 h2;subst h1
     rw[show K20.aa6 _=false from ht];rfl
    .rfl
   rw[e];exact ah toR (jd (ai (ifT (orF (um (iy (a2x (bh rfl) ckk ckk (row _)) (fj _))) (orT (a0z (iy (jo (g0 _) (e1 _)) (fj _)))))) (fu ckk)))
  |true =>
   rw[ht]at e1
   cases hr:vo 0 6 rs with
   |false =>
    rw[hr]at e2;have e:a7a (.tup [t,rs])=false:=by
     unfold a7a
     split
     .rename_i h;injection h with h;injection h with h1 h2;injection h2 with h2 h3;subst h2
      rename_i ws;have:¬ ws.length<=6:=λz=>by
       have:=of_decide_eq_false hr;omega
      simp[this]
     .rfl
    rw[e];exact ah toR (jd (ai (ifT (orF (um (iy (a2x (bh rfl) ckk ckk (row _)) (fj _))) (orF (um (iy (jo (g0 _) (e1 _)) (fj _))) (a0z (iy (a2x (g1 _) ckk ckk (e2 _)) (fj _)))))) (fu ckk)))
   |true =>
    rw[hr]at e2;obtain⟨x,rfl⟩:∃x,t=.str x:=by cases t<;>first|exact⟨_,rfl⟩|simp[a2k]at ht
    obtain⟨ws,rfl⟩:∃ws,rs=.tup ws:=by cases rs<;>first|exact⟨_,rfl⟩|simp[vo]at hr
    have wl:ws.length<=6:=by have:=bL hr;omega
    refine eti (orF (um (iy (a2x (bh rfl) ckk ckk (row _)) (fj _))) (orF (um (iy (jo (g0 _) (e1 _)) (fj _))) (um (iy (a2x (g1 _) ckk ckk (e2 _)) (fj _))))) ?_;refine etr (rm (ae7 (bh rfl) rfl)) ?_;have al:=K20.acz (fi:=sIt (sV 2)) (ce:=a1q K20.gw n6 jm) (ix:=[1]) (τ:=[some (.tup [.str x,.tup ws]),some (.str x),some (.tup ws)]) (xs:=ws) (P:=a9x x.cps.toList) (a75 (bh rfl) (ah6 _ _)) (by omega) λd hd=>by
     rw[v5];have:=ala (tg:=x.cps.toList) ((pr.2 _ rfl).2 d hd);rw[a1b]at this;exact lq (bh rfl) (bh rfl) (this _)
    have val:a7a (.tup [.str x,.tup ws])=(ws.all (a9x x.cps.toList) && decide (ws.filterMap nmO).Nodup):=by
     show(K20.aa6 x.cps.toList && (decide (ws.length<=6) && _))=_;rw[show K20.aa6 x.cps.toList=true from ht,ay wl,bM,bM]
    rw[val]
    cases ha:ws.all (a9x x.cps.toList) with
    |false =>
     rw[ha]at al;exact ah toR (jd (ai (ifT (a0z (iy al (fj _)))) (fu ckk)))
    |true =>
     rw[ha]at al;refine eti (um (iy al (fj _))) ?_;obtain⟨ps,rfl,nm⟩:=a9y ha;have pl:ps.length<=6:=by rwa[aJ]at wl
     have lc:aks (sIt (sV 2)) (tN 2) (a1r K20.gw n6 jm) [] [some (.tup [.str x,.tup (ps.map λp=>.tup [.str p.1,p.2])]),some (.str x),some (.tup (ps.map λp=>.tup [.str p.1,p.2]))] []=.ok (bz ((ps.map Prod.fst).foldl stepT []).length) []:=by
      unfold aks;rw[a75 (bh rfl) (ah6 _ _),bw];dsimp only;rw[ad1 ps [] (by simp;omega) λq hq=>?_,bw]
      .rfl
      .rfl
     have nd:=ahc (ps.map Prod.fst) [] dM;rw[bG,bp,eV,aJ]at nd;refine ah toR (fu (jb lc (jo (bh rfl) ltn) ?_));rw[nm,bM,aJ]
     by_cases z:(ps.map Prod.fst).Nodup
     .rw[ay z];exact xu (by rw[nd.mpr z])
     .rw[ar z];exact wk (λq=>z (nd.mp (by omega)))
theorem ahd(l:List Nat)(h:Hd):aa5 false (.rol (l.map bz)) (.rol []) h=.ok (.bl l.isEmpty) h:=by
 have p:(l.map bz).all (pur 59)=true:=by
  rw[aM]
  intro x hx
  obtain⟨y,_,rfl⟩:=bD.mp hx;rfl
 unfold aa5;simp only[zg,p,cZ,Bool.and_self,ef]
 cases l<;>rfl
noncomputable def bad(tg l:List Nat)(k:Nat):Bool:=decide (l.getD k 0∈l.take k) || !decide (l.getD k 0∈tg)
noncomputable def alb(tg l:List Nat):Bool:=decide (1<=l.length/\l.length<=6) && ((List.range l.length).filter (bad tg l)).isEmpty
noncomputable def alc(tg:List Nat):D->Bool|.str x=>alb tg x.cps.toList|_=>false
theorem avw(tg l:List Nat):alc tg (.str (S l))=alb tg l:=by simp only[alc,yu]
def bu:SF:=jt u9 2
theorem a9z{tg:List Nat}{d:D}(p:PAP.Pln d):Pu bu 2 [d,.str (S tg)] (.bl (alc tg d)):=by
 refine K20.a1y rfl (K20.ar2 p.clo (cu _)) (h':=[]) ?_;unfold bu;rw[du];show toR (u9 [some d,some (.str (S tg))] [])=_;unfold u9;have a1:sA m5 (aj (sV 0) (aj (sC (.ty "str")) aq)) [some d,some (.str (S tg))] []=.ok (.bl (isStr d)) []:=lq (bh rfl) ckk (K20.ab8 p)
 cases hs:isStr d with
 |true =>
  obtain⟨x,rfl⟩:∃x,d=.str x:=by cases d<;>first|exact⟨_,rfl⟩|simp[isStr]at hs
  rw[hs]at a1;have xl:x.cps.toList.length<=1000:=p;rw[<-a1b x]at a1 ⊢
  generalize x.cps.toList=l at xl a1
  rw[avw];have ln:∀hh,kj [.str (S l)] hh=.ok (.int (l.length:Nat)) hh:=λhh=>a4z (bx (by omega))
  have ch:=K20.ab9 (f:=sC (.int 1)) (g:=sA kj (aj (sV 0) aq)) (k:=sC (.int 6)) (τ:=[some (.str (S l)),some (.str (S tg))]) (h:=[]) ckk (jo (bh rfl) (ln _)) ckk;unfold alb
  by_cases hl:1<=l.length/\l.length<=6
  .rw[ay (by omega)]at ch
   refine eti (orF (um (iy a1 (fj _))) (um (tof ch))) ?_;have cz:sZ (a1g (sRg a02 (aj (sA kj (aj (sV 0) aq)) aq)) t1 jw wu [0,1]) [some (.str (S l)),some (.str (S tg))] []=.ok (.rol (((List.range l.length).filter (bad tg l)).map bz)) []:=by
    have fm:((List.range l.length).filter (bad tg l)).map bz=(List.range l.length).filterMap λk=>if bad tg l k=true then some (bz k) else none:=by
     generalize List.range l.length=ks
     induction ks with
     |nil=>rfl
     |cons k ks ih =>
      rw[List.filter_cons,bN]
      by_cases z:bad tg l k=true
      .rw[av z,av z,bg,ih]
      .rw[aO z,aO z,ih]
    rw[fm];refine a4x (a67 bz (λk=>if bad tg l k=true then some (bz k) else none) (List.range l.length) (ab3 (jo (bh rfl) (ln _)) (bx (by omega))) (bx (by simp;omega)) λk hk=>?_) ?_ (by simp)
    .have hk':k<l.length:=cB.mp hk;have gk:l[k]? = some (l.getD k 0):=by rw[bF,a8 hk'];rfl
     have xk:∀h:Hd,s2 gIx (sV 1) (sV 0) [some (bz k),some (.str (S l)),some (.str (S tg))] h=.ok (.str (S [l.getD k 0])) h:=λh=>jb (bh rfl) (bh rfl) (aku (bx (by omega)) gk)
     rw[ab4];have c:jw [some (bz k),some (.str (S l)),some (.str (S tg))] []=.ok (bad tg l k) []:=by
      unfold jw bad;have i1:=K20.ax4 false (l.getD k 0) (l.take k) [];have i2:=K20.ax4 true (l.getD k 0) tg [];have e1:sT (s2 (gIn false) (s2 gIx (sV 1) (sV 0)) (vm (sV 1) oN (oS (sV 0)))) [some (bz k),some (.str (S l)),some (.str (S tg))] []=.ok (decide (l.getD k 0∈l.take k)) []:=t2s (xk _) (PAP.a3d (bh rfl) onn (PAP.a3c (bh rfl)) (akv k (bx (by omega)))) (i1.trans (by simp))
      have e2:sT (s2 (gIn true) (s2 gIx (sV 1) (sV 0)) (sV 2)) [some (bz k),some (.str (S l)),some (.str (S tg))] []=.ok (!decide (l.getD k 0∈tg)) []:=t2s (xk _) (bh rfl) (i2.trans (by simp))
      cases z:decide (l.getD k 0∈l.take k) with
      |true=>rw[z]at e1;exact orT e1
      |false=>rw[z]at e1;exact orF e1 e2
     show R.bind (jw [some (bz k),some (.str (S l)),some (.str (S tg))] []) _=_;rw[c,bw]
     cases bad tg l k with
     |true=>rfl
     |false=>rfl
    .exact iz.mpr λz hz=>by
      obtain⟨k,_,e⟩:=cX.mp hz
      split at e
      .injection e with e;subst e;exact dh _
      .simp at e
   rw[ay hl,bM];exact ah toR (fu (jb cz (zds nlo rfl dz nlc (by simp)) (ahd _ _)))
  .rw[ar (by omega)]at ch
   rw[ar hl,dI];exact ah toR (jd (ai (ifT (orF (um (iy a1 (fj _))) (a0z (tof ch)))) (fu ckk)))
 |false =>
  rw[hs]at a1;have:alc tg d=false:=by cases d<;>first|rfl|simp[isStr]at hs
  rw[this];exact ah toR (jd (ai (ifT (orT (a0z (iy a1 (fj _))))) (fu ckk)))
end K16
namespace K16
open L2 MI AT HND
theorem an8(l:List Nat)(k:Nat):K20.L l k=l.getD k 0:=by unfold K20.L;rw[bF]
theorem ahe{tg:List Nat}(ht:∀c∈tg,c∈sig)(l:List Nat):alb tg l=(K20.aa6 l && a79 tg l):=by
 unfold alb K20.aa6;rw[Bool.and_assoc]
 congr 1
 rw[<-K20.aq4,cU,af,List.isEmpty_iff,List.filter_eq_nil_iff,aM];unfold a79;rw[aM]
 constructor
 .intro h
  have g:∀k,k<l.length->¬ l.getD k 0∈l.take k/\l.getD k 0∈tg:=λk hk=>by
   have:=h k (cB.mpr hk)
   unfold bad at this;simp only[cC,aW,e8,fS,not_or,Decidable.not_not]at this;exact this
  refine⟨λk hk=>?_,λc hc=>?_⟩
  .obtain⟨a,b⟩:=g k (cB.mp hk);unfold K20.avo;rw[an8,ay (ht _ b),ar a];rfl
  .obtain⟨k,hk,rfl⟩:=List.getElem_of_mem hc;have:=(g k hk).2;rw[bF,a8 hk]at this;exact ay this
 .rintro⟨h1,h2⟩ k hk
  have hk':=cB.mp hk;have a:=h1 k hk;unfold K20.avo at a;rw[an8,af,e8,fS]at a;have m:l.getD k 0∈l:=by
   rw[bF,a8 hk'];exact b9 hk'
  have b:=bL (h2 _ m);unfold bad;rw[ar a.2,ay b]
  decide
end K16
namespace SRC
open L2 MI AT
structure Src (o:O) (N:Nat):Prop where
 ex:∃(cells:List Int) (a l c s:Int),o=.lst [.rol (cells.map D.int),.int a,.int l,.int c,.int s]/\0<=a/\0<=l/\0<=s/\s<2147483647/\0<=c/\c<=N
theorem Src.clo(P:Src o N):yc 0 o:=by
 obtain⟨cells,a,l,c,s,rfl,_⟩:=P.ex;exact bj (vy (g8 λx _=>dh x)) (bj (dh _) (bj (dh _) (bj (dh _) (bj (dh _) dz))))
theorem Src.up(P:Src o N)(h:N<=M):Src o M:=by
 obtain⟨cells,a,l,c,s,e,h1,h2,h3,h4,h5,h6⟩:=P.ex;exact⟨cells,a,l,c,s,e,h1,h2,h3,h4,h5,by omega⟩
def ak:SF:=jt a0k 4
abbrev so(cells:List Int)(a l c s:Int):O:=.lst [.rol (cells.map D.int),.int a,.int l,.int c,.int s]
theorem ad4(e:h[i]? = some (.lst xs))(hj:xs[j]? = some y):aib (.ref i) (.int (j:Nat)) h=.ok y h:=by
 unfold aib;simp only[e,vp hj]
theorem ax6(e1:fo τ h=.ok o h)(e2:fi τ h=.ok i h)(e3:aib o i h=.ok x h)(e4:fe τ h=.ok y h)(e5:G x y h=.ok z h)(e6:put o i z h=some h'):a1j G fo fi fe τ h=.nx τ h':=by
 unfold a1j;rw[e1,a1k,e2,a1k,e3,a1k,e4,a1k,e5,a1k,e6]
theorem b1v(c:y<=x):gGe (.int x) (.int y) h=.ok (.bl true) h:=by show R.ok (D.bl (decide (y<=x))) h=_;rw[ay c]
theorem b1w(c:¬ y<=x):gGe (.int x) (.int y) h=.ok (.bl false) h:=by show R.ok (D.bl (decide (y<=x))) h=_;rw[ar c]
theorem ahf(P:Src o N)(hN:N<=1000000000)(m0:0<m)(m1:m<1073741824):∃r o',ak [.ref 0,.int m] [o]=.ok (.int r) [o']/\0<=r/\r<m/\Src o' (N+1):=by
 obtain⟨cells,a,l,c,s,rfl,a0,l0,s0,s1,c0,c1⟩:=P.ex;unfold ak;rw[du];show ∃r o',toR (a0k [some (.ref 0),some (.int m),none,none] [so cells a l c s])=_/\_;unfold a0k;have last:∀s':Int,0<=s'->s'<2147483647->∃r q,0<=r/\r<m/\(s'+1+(c+1)*7919)^(3:Int).toNat%2147483647=q/\(q*48271+(c+1))^(2:Int).toNat%2147483629 / 64%m=r/\CMul (c+1) 7919/\CMul q 48271 /\
   (∀h,a6z (.int (s'+1+(c+1)*7919)) (.int 3) h=.ok (.int ((s'+1+(c+1)*7919)^(3:Int).toNat)) h)/\∀h,a6z (.int (q*48271+(c+1))) (.int 2) h=.ok (.int ((q*48271+(c+1))^(2:Int).toNat)) h:=λs' h0 h1=>by
  have q0:0<=(s'+1+(c+1)*7919)^(3:Int).toNat%2147483647:=dX _ (by decide)
  have q1:(s'+1+(c+1)*7919)^(3:Int).toNat%2147483647<2147483647:=da _ (by decide)
  refine⟨_,_,dX _ (by omega),da _ m0,rfl,rfl,.inr ⟨by decide,by decide⟩,.inr ⟨by decide,by decide⟩,λh=>aur ⟨by decide,by decide,by omega⟩,λh=>aur ⟨by decide,by decide,?_⟩⟩
  generalize (s'+1+(c+1)*7919)^(3:Int).toNat%2147483647=q at q0 q1
  omega
 have x0:∀{a l c s:Int},gIx (.ref 0) (.int 0) [so cells a l c s]=.ok (.rol (cells.map D.int)) [so cells a l c s]:=λ{a l c s}=>a9p (j:=0) rfl rfl;have x1:∀{a l c s:Int},gIx (.ref 0) (.int 1) [so cells a l c s]=.ok (.int a) [so cells a l c s]:=λ{a l c s}=>a9p (j:=1) rfl rfl;have x2:∀{a l c s:Int},gIx (.ref 0) (.int 2) [so cells a l c s]=.ok (.int l) [so cells a l c s]:=λ{a l c s}=>a9p (j:=2) rfl rfl;have x3:∀{a l c s:Int},gIx (.ref 0) (.int 3) [so cells a l c s]=.ok (.int c) [so cells a l c s]:=λ{a l c s}=>a9p (j:=3) rfl rfl
 have x4:∀{a l c s:Int},gIx (.ref 0) (.int 4) [so cells a l c s]=.ok (.int s) [so cells a l c s]:=λ{a l c s}=>a9p (j:=4) rfl rfl;have u3:∀{a l c s:Int} {τ:Sd},τ[0]? = some (some (.ref 0))->a1j a1h (sV 0) (sI 3) (sI 1) τ [so cells a l c s]=.nx τ [so cells a l (c+1) s]:=λ{a l c s τ} h0=>ax6 (bh h0) ckk (ad4 (j:=3) rfl rfl) ckk a2w rfl;have u1:∀{a l c s:Int} {τ:Sd},τ[0]? = some (some (.ref 0))->a1j a1h (sV 0) (sI 1) (sI 1) τ [so cells a l c s]=.nx τ [so cells (a+1) l c s]:=λ{a l c s τ} h0=>ax6 (bh h0) ckk (ad4 (j:=1) rfl rfl) ckk a2w rfl
 have p18:∀{h:Hd},a6z (.int 10) (.int 18) h=.ok (.int 1000000000000000000) h:=λ{h}=>p18 h;have e1:∀{a l c s:Int} {t2:Option D},0<l->toR (gh (sIf (sT (s2 gGt (s2 gIx (sV 0) (sI 2)) (sI 0))) (gh (j5 3 (s2 a3z (s2 gIx (sV 0) (sI 2)) (sV 1))) (gh (a1j a6m (sV 0) (sI 2) (sV 1)) (jf (sV 3)))) sNx) (gh (j5 3 (s2 a3z (s2 a6z (s2 dm (s2 dm (s2 gIx (sV 0) (sI 4)) (sI 1)) (s2 yq (s2 gIx (sV 0) (sI 3)) (sI 7919))) (sI 3)) (sI 2147483647))) (jf (s2 a3z (s2 a6m (s2 a3z (s2 a6z (s2 dm (s2 yq (sV 3) (sI 48271)) (s2 gIx (sV 0) (sI 3))) (sI 2)) (sI 2147483629)) (sI 64)) (sV 1)))) [some (.ref 0),some (.int m),t2,none] [so cells a l c s])=.ok (.int (l%m)) [so cells a (l / m) c s]:=λ{a l c s t2} hl=>by
  refine ah toR (jd (ai (ifT (t2s (nj rfl x2) ckk (acs hl))) ?_));refine ai (j9 (jb (nj rfl x2) (bh rfl) (a68 m0))) ?_;refine ai (rm (ax6 (bh rfl) ckk (ad4 (j:=2) rfl rfl) (bh rfl) (div_ii ⟨m0,m1⟩) rfl)) ?_;exact fu (bh rfl)
 have e2:∀{a s':Int} {t2:Option D},0<=s'->s'<2147483647->∃r,0<=r/\r<m/\toR (gh (sIf (sT (s2 gGt (s2 gIx (sV 0) (sI 2)) (sI 0))) (gh (j5 3 (s2 a3z (s2 gIx (sV 0) (sI 2)) (sV 1))) (gh (a1j a6m (sV 0) (sI 2) (sV 1)) (jf (sV 3)))) sNx) (gh (j5 3 (s2 a3z (s2 a6z (s2 dm (s2 dm (s2 gIx (sV 0) (sI 4)) (sI 1)) (s2 yq (s2 gIx (sV 0) (sI 3)) (sI 7919))) (sI 3)) (sI 2147483647))) (jf (s2 a3z (s2 a6m (s2 a3z (s2 a6z (s2 dm (s2 yq (sV 3) (sI 48271)) (s2 gIx (sV 0) (sI 3))) (sI 2)) (sI 2147483629)) (sI 64)) (sV 1)))) [some (.ref 0),some (.int m),t2,none] [so cells a 0 (c+1) s'])=.ok (.int r) [so cells a 0 (c+1) s']:=λ{a s' t2} h0 h1=>by
  obtain⟨r,q,r0,r1,eq,er,d1,d2,d3,d4⟩:=last s' h0 h1;refine⟨r,r0,r1,?_⟩;refine eti (t2s (nj rfl x2) ckk (acu (by omega))) ?_
  refine ets (jb (jb (jb (jb (nj rfl x4) ckk a0y) (jb (nj rfl x3) ckk (a2l.trans (av d1))) a0y) ckk (d3 _)) ckk (a68 (by decide))) ?_
  rw[eq];refine etr (fu (jb (jb (jb (jb (jb (nj rfl (a2l.trans (av d2))) (nj rfl x3) a0y) ckk (d4 _)) ckk (a68 (by decide))) ckk (div_ii ⟨by decide,by decide⟩)) (bh rfl) (a68 m0))) ?_
  rw[er];rfl
 by_cases hA:l=0/\a<(cells.length:Int)
 .obtain⟨rfl,ha⟩:=hA;obtain⟨j,rfl⟩:=eK a0;have hj:j<cells.length:=by omega
  have gx:∀{h:Hd},gIx (.rol (cells.map D.int)) (.int (j:Nat)) h=.ok (.int cells[j]) h:=λ{h}=>ayp (by rw[bT,a8 hj];rfl)
  have tt:∀{c s:Int} {t2 t3:Option D},yp (sT (s2 hEq (s2 gIx (sV 0) (sI 2)) (sI 0))) (sT (s2 gLt (s2 gIx (sV 0) (sI 1)) (sA kj (aj (s2 gIx (sV 0) (sI 0)) aq)))) [some (.ref 0),some (.int m),t2,t3] [so cells (j:Nat) 0 c s]=.ok true [so cells (j:Nat) 0 c s]:=λ{c s t2 t3} =>
   a4a (t2s (nj rfl x2) ckk (xu rfl)) (t2s (nj rfl x1) (jo (nj rfl x0) (a4k.trans (by rw[aJ]))) (acv ha))
  have s2':0<=(s*31+cells[j])%2147483647:=dX _ (by decide)
  have s3:(s*31+cells[j])%2147483647<2147483647:=da _ (by decide)
  have go:∀{o':O} {g:SS},sIf (sT (s2 gGe (sV 2) (s2 a6z (sI 10) (sI 18)))) (adp (sV 2) (sV 0) (sI 2)) (adp (s2 a3z (s2 dm (s2 yq (s2 gIx (sV 0) (sI 4)) (sI 31)) (sV 2)) (sI 2147483647)) (sV 0) (sI 4)) [some (.ref 0),some (.int m),some (.int cells[j]),none] [so cells ((j:Nat)+1) 0 (c+1) s]=.nx [some (.ref 0),some (.int m),some (.int cells[j]),none] [o']->
    toR (gh (a1j a1h (sV 0) (sI 3) (sI 1)) (gh (sIf (yp (sT (s2 hEq (s2 gIx (sV 0) (sI 2)) (sI 0))) (sT (s2 gLt (s2 gIx (sV 0) (sI 1)) (sA kj (aj (s2 gIx (sV 0) (sI 0)) aq))))) (gh (j5 2 (s2 gIx (s2 gIx (sV 0) (sI 0)) (s2 gIx (sV 0) (sI 1)))) (gh (a1j a1h (sV 0) (sI 1) (sI 1)) (sIf (sT (s2 gGe (sV 2) (s2 a6z (sI 10) (sI 18)))) (adp (sV 2) (sV 0) (sI 2)) (adp (s2 a3z (s2 dm (s2 yq (s2 gIx (sV 0) (sI 4)) (sI 31)) (sV 2)) (sI 2147483647)) (sV 0) (sI 4))))) sNx) g) [some (.ref 0),some (.int m),none,none] [so cells (j:Nat) 0 c s])=toR (g [some (.ref 0),some (.int m),some (.int cells[j]),none] [o']):=λ{o' g} e=>by
   refine etr (rm (u3 rfl)) ?_;refine ah toR (rm (ai (ifT tt) ?_));refine ai (j9 (jb (nj rfl x0) (nj rfl x1) gx)) ?_;exact ai (rm (u1 rfl)) e
  generalize cells[j]=x at *
  by_cases hB:(1000000000000000000:Int)<=x
  .refine⟨x%m,_,(go (o':=so cells ((j:Nat)+1) x (c+1) s) (ai (ifT (t2s (bh rfl) (jb ckk ckk p18) (b1v hB))) (av7 (bh rfl) (bh rfl) ckk rfl))).trans (e1 (by omega)),dX _ (by omega),da _ m0,⟨cells,(j:Int)+1,x / m,c+1,s,rfl,by omega,Int.ediv_nonneg (by omega) (by omega),s0,s1,by omega,by omega⟩⟩
  .obtain⟨r,r0,r1,e⟩:=e2 (a:=(j:Nat)+1) (t2:=some (.int x)) s2' s3;exact⟨r,_,(go (o':=so cells ((j:Nat)+1) 0 (c+1) ((s*31+x)%2147483647)) (ai (ifF (t2s (bh rfl) (jb ckk ckk p18) (b1w hB))) (av7 (jb (jb (jb (nj rfl x4) ckk (a2l.trans (av (.inr ⟨by decide,by decide⟩)))) (bh rfl) a0y) ckk (a68 (by decide))) (bh rfl) ckk rfl))).trans e,r0,r1,⟨cells,(j:Int)+1,0,c+1,_,rfl,by omega,by omega,s2',s3,by omega,by omega⟩⟩
 .have tt:yp (sT (s2 hEq (s2 gIx (sV 0) (sI 2)) (sI 0))) (sT (s2 gLt (s2 gIx (sV 0) (sI 1)) (sA kj (aj (s2 gIx (sV 0) (sI 0)) aq)))) [some (.ref 0),some (.int m),none,none] [so cells a l (c+1) s]=.ok false [so cells a l (c+1) s]:=by
   by_cases hl:l=0
   .exact a4a (t2s (nj rfl x2) ckk (xu hl)) (t2s (nj rfl x1) (jo (nj rfl x0) (a4k.trans (by rw[aJ]))) (a9q λz=>hA ⟨hl,z⟩))
   .exact a6p (t2s (nj rfl x2) ckk (wk hl))
  by_cases hC:0<l
  .exact⟨l%m,_,(ah toR (rm (u3 rfl))).trans ((ah toR (ifN tt)).trans (e1 hC)),dX _ (by omega),da _ m0,⟨cells,a,l / m,c+1,s,rfl,a0,Int.ediv_nonneg (by omega) (by omega),s0,s1,by omega,by omega⟩⟩
  .have:l=0:=by omega
   subst this;obtain⟨r,r0,r1,e⟩:=e2 (a:=a) (t2:=none) s0 s1;exact⟨r,_,(ah toR (rm (u3 rfl))).trans ((ah toR (ifN tt)).trans e),r0,r1,⟨cells,a,0,c+1,s,rfl,a0,by omega,s0,s1,by omega,by omega⟩⟩
theorem abd(P:Src o N)(hN:N<=1000000000)(m0:0<m)(m1:m<1073741824):∃r o',Dr ak 2 [.int m] o (.int r) o'/\0<=r/\r<m/\Src o' (N+1):=by
 obtain⟨r,o',e,r0,r1,P'⟩:=ahf P hN m0 m1;refine⟨r,o',Dr.of rfl (by simp[dh]) P.clo e (km (dh _) ?_) (dh _) P'.clo,r0,r1,P'⟩
 intro u hu
 simp at hu
 subst hu;exact a0d (by omega) P'.clo
end SRC
namespace SRC
open L2 MI AT HND EVX
def nq:SF:=jt xq 2
theorem ints_map:∀l:List Int,a96 (l.map D.int)=some l
 |[]=>rfl
 |a::l=>by rw[bg];simp only[a96,ints_map l,g9]
theorem b1x(e:k τ h=.ok ds h1)(eg:g ds h1=.ok d h2):sA g k τ h=.ok d h2:=by
 unfold sA;rw[e,bw,eg]
noncomputable def cell(x:Int):Int:=2*azp x+(if decide (x<0)=true then 1 else 0)
theorem ahg(ns:List Int)(h:Hd):∃o,Src o 0/\gm true 1 nq [.scr (ns.map D.int)] h=.ok (.ref h.length) (h++[o]):=by
 have cl:clos 0 ((ns.take 63).map D.int):=g8 λx _=>dh x;have z1:sZ (vm (sV 0) oN (oS (sI 63))) [some (.scr (ns.map D.int)),none] []=.ok (.rol ((ns.take 63).map D.int)) []:=by
  refine a4x (by
   show gSl (.scr (ns.map D.int)) none (some ((63:Nat):Int)) []=_;unfold gSl;simp only[aah,List.map_take]) cl (by simp)
 have z2:sZ (mj (sIt (sZ (vm (sV 0) oN (oS (sI 63))))) t1 ux []) [some (.scr (ns.map D.int)),none] []=.ok (.rol ((ns.take 63).map λx=>D.int (cell x))) []:=by
  refine a4x (qj D.int (λx=>D.int (cell x)) (ns.take 63) (a75 z1 rfl) (bx (by simp;omega)) λx _=>?_) (g8 λx _=>dh _) (by simp)
  rw[v5];unfold ux;exact jb (jb ckk (jo (bh rfl) (agm _ _)) (a2l.trans (av (.inl ⟨by decide,by decide⟩)))) (jo (nj rfl rfl) rfl) a0y
 have em:((ns.take 63).map λx=>D.int (cell x))=((ns.take 63).map cell).map D.int:=by rw[cQ];rfl
 rw[em]at z2
 generalize (ns.take 63).map cell=cs at z2
 have e:nq [.scr (ns.map D.int)] []=.ok (.ref 0) [.lst [.rol (cs.map D.int),.int 0,.int 0,.int 0,.int (cs.sum%2147483647)]]:=by
  unfold nq;rw[du];show toR (xq [some (.scr (ns.map D.int)),none] [])=_;unfold xq;refine etr (j9 z2) ?_;have su:a71 [.rol (cs.map D.int)] []=.ok (.int cs.sum) []:=by unfold a71;simp only[ints_map]
  exact ah toR (fu (b1x (a09 (bh rfl) (a09 ckk (a09 ckk (a09 ckk (a09 (jb (jo (bh rfl) su) ckk (a68 (by decide))) rfl))))) rfl))
 have P:Src (.lst [.rol (cs.map D.int),.int 0,.int 0,.int 0,.int (cs.sum%2147483647)]) 0:=⟨cs,0,0,0,_,rfl,by decide,by decide,dX _ (by decide),da _ (by decide),by decide,by decide⟩
 exact⟨_,P,auk rfl (by simpa[MI.clo] using (g8 λx _=>dh x:clos 0 (ns.map D.int))) e rfl P.clo h⟩
def b8:SF:=jt wg 1
theorem a2g:Pu b8 0 [] (.str (S sig)):=HND.a2g
def qu:SF:=jt (xr ak b8) 5
theorem an9{a b:List Nat}(l:a.length+b.length<=LINE):a1h (.str (S a)) (.str (S b)) h=.ok (.str (S (a++b))) h:=by
 have:=a2v (h:=h) l
 simpa[a1h,dm,b0o] using this
theorem ald(e:f τ h=.ok (.int i) h1):oS f τ h=.ok (some i) h1:=by unfold oS;rw[e];rfl
theorem ale(e:f τ h=.ok d h1)(e1:lo τ h1=.ok a h2)(e2:hi τ h2=.ok b h3)(e3:acg d a b h3=.ok v h4):vm f lo hi τ h=.ok v h4:=by
 unfold vm;rw[e,bw,e1,bw,e2,bw,e3]
theorem ahh(P:Src o N)(hN:N<=999999000):∃l o',Tongue l/\Dr qu 1 [] o (.str (S l)) o'/\Src o' (N+7):=by
 obtain⟨r0,o1,e1,r0a,r0b,P1⟩:=abd (m:=6) P (by omega) (by decide) (by decide)
 have lo:=a3s (g:=kN 3) (b:=uy ak b8) (λi:Nat=>D.int (0+(i:Nat)))
  (λpre τ h=>∃(aG told:List Nat) (u:O) (t3 t4:Option D),τ=[some (.ref 0),some (.str (S aG)),some (.str (S told)),t3,t4]/\h=[u]/\Src u (N+1+pre.length)/\told.length=pre.length/\(told++aG).length=95/\(told++aG).Nodup/\∀c∈told++aG,c∈sig)
  (List.range (1+r0).toNat) [some (.ref 0),some (.str (S sig)),some (.str (S [])),none,none] [o1] ?_
  ⟨sig,[],o1,none,none,rfl,rfl,P1,rfl,by simp[a2z],by simpa using avf,by simp⟩
 .obtain⟨τ',h',e2,aG,told,u,t3,t4,rfl,rfl,P2,l1,l2,nd,sb⟩:=lo;rw[c8]at P2 l1;have T:Tongue told:=⟨by omega,by omega,(bA.mp nd).1,λc hc=>sb c (e9 _ hc)⟩
  refine⟨told,u,T,Dr.of rfl (by simp) P.clo (r:=.ok (.str (S told)) [u]) ?_ (km (cu _) (by simpa using a0d (by omega) P2.clo)) (cu _) P2.clo,P2.up (by omega)⟩
  unfold qu;rw[du];show toR (xr ak b8 [some (.ref 0),none,none,none,none] [o])=_;unfold xr;have c2:gm false 2 ak [.ref 0,.int 6] [o]=.ok (.int r0) [o1]:=e1 0 [o] rfl;have bd:B62 (1+r0):=by unfold B62;omega
  refine ets (av4 (a2g _)) ?_;refine etr (j9 ckk) ?_;have it:sRg a02 (aj (s2 dm (sI 1) (sA (gm false 2 ak) (aj (sV 0) (aj (sI 6) aq)))) aq) [some (.ref 0),some (.str (S sig)),some (.str ""),none,none] [o]=.ok ⟨rng 0 (1+r0).toNat,λ_=>True⟩ [o1]:=by
   unfold sRg;rw[arg1 (jb ckk (lq (bh rfl) ckk c2) a0y),bw];exact av bd
  refine etr (a9o it) ?_;refine ai (ah (λz=>toR (MI.thn z _)) e2) ?_;exact ah toR (fu (bh rfl))
 .rintro pre i post τ h all ⟨aG,told,u,t3,t4,rfl,rfl,P2,l1,l2,nd,sb⟩
  have aH:pre.length<(1+r0).toNat:=by
   have:=ah List.length all
   simp at this;omega
  rw[ae]at l2;obtain⟨r,u',e2,ra,rb,P3⟩:=abd (m:=(aG.length:Nat)) P2 (by omega) (by omega) (by omega)
  obtain⟨j,rfl⟩:=eK ra;have hj:j<aG.length:=by omega
  have gx:aG[j]? = some aG[j]:=a8 hj;have pp:=a9t told aG j aG[j] gx;refine⟨_,_,rfl,_,_,?_,aG.take j++aG.drop (j+1),told++[aG[j]],u',some (.int (0+(i:Nat))),some (.int (j:Nat)),rfl,rfl,by simpa[gy] using P3,by simp[l1],?_,pp.nodup_iff.mp nd,λc hc=>sb c (pp.mem_iff.mpr hc)⟩
  .unfold uy;have L:∀n:Nat,n<=95->n<=LINE:=λn hn=>by show n<=16777216;omega
   have c2:=e2 0 [u] rfl;have x1:∀h,gIx (.str (S aG)) (.int (j:Nat)) h=.ok (.str (S [aG[j]])) h:=λh=>aku (L _ (by omega)) gx
   have x2:∀h,kj [.str (S aG)] h=.ok (.int aG.length) h:=λh=>a4z (L _ (by omega))
   have x3:∀h,a1h (.str (S told)) (.str (S [aG[j]])) h=.ok (.str (S (told++[aG[j]]))) h:=λh=>an9 (L _ (by simp;omega))
   have x4:∀h,acg (.str (S aG)) none (some (j:Int)) h=.ok (.str (S (aG.take j))) h:=λh=>akv j (L _ (by omega))
   have x5:∀h,acg (.str (S aG)) (some ((j:Int)+1)) none h=.ok (.str (S (aG.drop (j+1)))) h:=λh=>a74 (j+1) (L _ (by omega))
   have x6:∀h,dm (.str (S (aG.take j))) (.str (S (aG.drop (j+1)))) h=.ok (.str (S (aG.take j++aG.drop (j+1)))) h:=λh=>a2v (L _ (by simp;omega))
   have c2:gm false 2 ak [.ref 0,.int (aG.length:Nat)] [u]=.ok (.int (j:Nat)) [u']:=c2;refine ai (j9 (lq (bh rfl) (jo (bh rfl) (x2 _)) c2)) ?_;refine ai (rm (ae6 rfl (jb (bh rfl) (bh rfl) (x1 _)) (x3 _))) ?_;exact av5 (jb (ale (bh rfl) rfl (ald (bh rfl)) (x4 _)) (ale (bh rfl) (ald (nj rfl a0y)) rfl (x5 _)) (x6 _))
  .rw[<-pp.length_eq];simpa using l2
end SRC
namespace PN
open L2 MI AT HND EVX
end PN
namespace SRC
open L2 MI AT HND EVX
theorem b1y(e1:c τ h=.ok true h1)(e2:f τ h1=r):afn c f g τ h=r:=by unfold afn;rw[e1,bw,av rfl];exact e2
theorem b1z(e1:c τ h=.ok false h1)(e2:g τ h1=r):afn c f g τ h=r:=by unfold afn;rw[e1,bw,aO (by simp)];exact e2
end SRC
namespace BF
noncomputable def walk(step:Nat->Nat->Nat)(r:Nat):List Nat->Nat
 |[]=>r
 |c::p=>step (walk step r p) c
section
variable(s:Nat)(step:Nat->Nat->Nat)(K:Nat->Bool)
noncomputable def fl:Nat->Nat->Bool
 |0,r=>K r
 |k+1,r=>(List.range s).any λc=>fl k (step r c)
variable{s step K}
end
end BF
namespace SRC
open L2 MI AT HND EVX
abbrev cst(l:List Nat):List Int:=l.map λx:Nat=>(x:Int)
end SRC
namespace PN
open L2 MI AT HND EVX
end PN
namespace K76
open L2 MI AT HND
theorem avx:∀ls:List (List Nat),Txt.join (S []) (ls.map S)=S ls.flatten:=by
 have e:∀zs:List Str,Txt.join (S []) zs=Str.join (S []) zs:=PySem.StrLaws.glued_eq_join (S []);have st:∀(x y:Str) (r:List Str),Str.join (S []) (x::y::r)=x++S []++Str.join (S []) (y::r):=λ_ _ _=>rfl
 intro ls
 rw[e]
 induction ls with
 |nil=>rfl
 |cons l ls ih =>
  cases ls with
  |nil=>rw[bg,cY,bU,List.flatten_nil,bX];rfl
  |cons m ls =>
   rw[bg,bg,st,<-bg,ih,apw,apw,bX,bU (l:=l)]
theorem ana:∀ls:List (List Nat),aar (ls.map λl=>D.str (S l))=some (ls.map S)
 |[]=>rfl
 |l::ls=>by
  show(aar (ls.map λl=>D.str (S l))).map _=_;rw[ana ls];rfl
theorem b20(ls:List (List Nat)):((ls.map S).map (·.length)).sum=ls.flatten.length:=by
 induction ls with
 |nil=>rfl
 |cons l ls ih=>rw[bg,bg,eL,ih,bU,ae,a4y]
theorem avy{ls:List (List Nat)}(z:ls.flatten.length<=1000000):adu (.str (S [])) [.rol (ls.map λl=>.str (S l))] h=.ok (.str (S ls.flatten)) h:=by
 unfold adu;simp only[ana,b20,a4y,bp,Nat.mul_zero,Nat.add_zero,avx];rw[av (by omega)]
theorem b00(e1:f τ h=.ok (.str z) h1)(e2:k τ h1=.ok ds h2)(e3:g (.str z) ds h2=.ok v h3):sMS g f k τ h=.ok v h3:=by
 unfold sMS;rw[e1,bw];dsimp only;rw[e2,bw,e3]
end K76
namespace ENG
open L2 MI
abbrev Rl:=Nat->Nat->Prop
open Classical in
def fl(n:Nat)(R:Rl)(a:Nat):List Nat:=(List.range (n+1)).filter λe=>decide (R a e)
end ENG
namespace SHD
open L2 MI AT HND EVX
open PAP hiding a09 a3w a5g a76 aof
def Dr2(F:SF)(n:Nat)(ds:List D)(o p:O)(d:D)(o' p':O):Prop:=∀i j h,i≠j->h[i]? = some o->h[j]? = some p->gm false n F (.ref i::.ref j::ds) h=.ok d ((h.set i o').set j p')
theorem Dr2.of{F:SF}{n:Nat}{ds:List D}{o o' p p':O}{r:R D}{d:D}(hn:ds.length+2=n)(cd:∀x∈ds,clo 0 x)(co:yc 0 o)(cp:yc 0 p)(e:F (.ref 0::.ref 1::ds) [o,p]=r)(z:a9a 2 r=.ok d [o',p'])(c:clo 0 d)(co':yc 0 o')(cp':yc 0 p'):Dr2 F n ds o p d o' p':=λi j h ne hi hj=>by
 obtain⟨p1,_,p3⟩:=a3q cd;have e1:a0s (.ref i::.ref j::ds)=[i,j]:=by
  have:a0s (.ref i::.ref j::ds)=i::j::a0s ds:=rfl
  rw[this,p1]
 have e2:a0c 0 (.ref i::.ref j::ds)=.ref 0::.ref 1::ds:=by
  have:a0c 0 (.ref i::.ref j::ds)=.ref 0::.ref 1::a0c 2 ds:=rfl
  rw[this,p3]
 unfold gm;rw[av (by simpa using hn)]
 unfold amq;rw[e1];simp only[a1a,hi,hj,aL,bp,cK,eP,eV,Nat.reduceAdd];have all:∀x∈(D.ref i::.ref j::ds),clo 0 x\/isRef x:=λx hx=>by
  rcases aZ.mp hx with rfl|hx
  .exact .inr ⟨i,rfl⟩
  rcases aZ.mp hx with rfl|hx
  .exact .inr ⟨j,rfl⟩
  .exact .inl (cd x hx)
 rw[av ⟨by simp[ne],all,λu hu=>by simp only[aZ,cE,ff]at hu;rcases hu with rfl|rfl;exact co;exact cp⟩,e2,e,z]
 simp[c,co',cp',ug]
theorem ayu{F:SF}{n:Nat}{ds:List D}{o o' p p':O}{d:D}{h:Hd}(q:Dr2 F n ds o p d o' p'):gm false n F (.ref 0::.ref 1::ds) (o::p::h)=.ok d (o'::p'::h):=q 0 1 (o::p::h) (by decide) rfl rfl
inductive Sh where
 |one (s:List Nat)|row (ps:List Sh)|eit (ps:List Sh)|many (p:Sh)|tim (p:Sh) (lo hi:Nat)
mutual
def sd:Sh->D
 |.one s=>.tup [.str "one",.str (S s)]
 |.row ps=>.tup [.str "row",.tup (sds ps)]
 |.eit ps=>.tup [.str "either",.tup (sds ps)]
 |.many p=>.tup [.str "many",sd p]
 |.tim p lo hi=>.tup [.str "times",sd p,bz lo,bz hi]
def sds:List Sh->List D
 |[]=>[]
 |p::ps=>sd p::sds ps
end
theorem a0e:∀ps,sds ps=ps.map sd
 |[]=>by rw[sds];rfl
 |p::ps=>by rw[sds,a0e ps];rfl
def a1d(tg:List Nat):Nat->Sh->Prop
 |0,_=>False
 |n+1,s=>match s with
  |.one s=>1<=s.length/\s.length<=6/\∀c∈s,c∈tg
  |.row ps=>ps.length<=6/\∀p∈ps,a1d tg n p
  |.eit ps=>1<=ps.length/\ps.length<=6/\∀p∈ps,a1d tg n p
  |.many p=>a1d tg n p
  |.tim p lo hi=>lo<=hi/\hi<=4/\a1d tg n p
mutual
theorem a2n:∀p,MI.clo 0 (sd p)
 |.one s=>by rw[sd];exact jc (bj (cu _) (bj (cu _) dz))
 |.row ps=>by rw[sd];exact jc (bj (cu _) (bj (jc (abe ps)) dz))
 |.eit ps=>by rw[sd];exact jc (bj (cu _) (bj (jc (abe ps)) dz))
 |.many p=>by rw[sd];exact jc (bj (cu _) (bj (a2n p) dz))
 |.tim p lo hi=>by rw[sd];exact jc (bj (cu _) (bj (a2n p) (bj (dh _) (bj (dh _) dz))))
theorem abe:∀ps,clos 0 (sds ps)
 |[]=>by rw[sds];exact dz
 |p::ps=>by rw[sds];exact bj (a2n p) (abe ps)
end
def bnd:Nat->Nat
 |0=>200
 |d+1=>7*bnd d
theorem anb:∀d,200<=bnd d
 |0=>by decide
 |d+1=>by have:=anb d;rw[bnd];omega
theorem anc:∀{d e:Nat},d<=e->bnd d<=bnd e
 |d,0,h=>by cases Nat.le_zero.mp h;exact a9 _
 |d,e+1,h=>by
  by_cases q:d=e+1
  .rw[q];exact a9 _
  .have:=anc (d:=d) (e:=e) (by omega);rw[bnd];omega
theorem ahi{tg:List Nat}:∀{n:Nat} {s:Sh},a1d tg n s->a1d tg (n+1) s
 |0,_,h=>h.elim
 |n+1,.one s,h=>h
 |n+1,.row ps,h=>⟨h.1,λp hp=>ahi (h.2 p hp)⟩
 |n+1,.eit ps,h=>⟨h.1,h.2.1,λp hp=>ahi (h.2.2 p hp)⟩
 |n+1,.many p,h=>ahi (n:=n) (s:=p) h
 |n+1,.tim p lo hi,h=>⟨h.1,h.2.1,ahi h.2.2⟩
theorem a85(x:Int):yc 0 (.lst [.int x]):=bj (dh _) dz
theorem ahj{o p:O}(c:yc 0 o)(c':yc 0 p):∀u∈[o,p],yc 0 u:=λu hu=>by
 simp only[aZ,cE,ff]at hu
 rcases hu with rfl|rfl
 .exact c
 .exact c'
theorem b01{d:D}{o p:O}{h:Hd}(c:MI.clo 0 d)(co:yc 0 o)(cp:yc 0 p):a9a 2 (.ok d (o::p::h))=.ok d [o,p]:=km (a5z (by omega) c) (by
 intro u hu
 simp only[List.take_succ_cons,fH]at hu;exact a0d (by omega) (ahj co cp u hu))
theorem ayv{a b c d:D}{h:Hd}:MI.dj [a,b,c,d] h=.ok (.tup [a,b,c,d]) h:=by unfold MI.dj;rw[av (bx (by simp))]
theorem a86{xs:List D}{h:Hd}:u5 [.rol xs] h=.ok (.tup xs) h:=rfl
theorem ixp{o:O}{v:D}{h:Hd}:gIx (.ref 1) (.int 0) (o::.lst [v]::h)=.ok v (o::.lst [v]::h):=rfl
theorem subn{n:Nat}{h:Hd}:MI.a3h (.int ((n+1:Nat):Int)) (.int 1) h=.ok (bz n) h:=by
 rw[ym,show((n+1:Nat):Int)-1=(n:Int) by omega]
theorem ar4{x y:Int}{h:Hd}:dm (.int x) (.int y) h=.ok (.int (x+y)) h:=rfl
section
variable{a b c d:D}{xs:List D}{h:Hd}
theorem ix0:gIx (.tup (a::xs)) (.int 0) h=.ok a h:=a6q (j:=0) rfl
theorem ix1:gIx (.tup (a::b::xs)) (.int 1) h=.ok b h:=a6q (j:=1) rfl
theorem ix3:gIx (.tup (a::b::c::d::xs)) (.int 3) h=.ok d h:=a6q (j:=3) rfl
theorem ayw{x:Str}:hEq (.str x) (.str x) h=.ok (.bl true) h:=by rw[akx,cV]
theorem ayx{x y:Str}(e:(x == y)=false):hEq (.str x) (.str y) h=.ok (.bl false) h:=by rw[akx,e]
theorem ayy{x y:Str}(e:(x == y)=false):hNe (.str x) (.str y) h=.ok (.bl true) h:=by rw[av3,e];rfl
theorem ayz{x:Str}:hNe (.str x) (.str x) h=.ok (.bl false) h:=by rw[av3,cV];rfl
end
inductive All2 {α β:Type} (Q:α->β->Prop):List α->List β->Prop
 |nil:All2 Q [] []
 |cons {x:α} {y:β} {xs:List α} {ys:List β} (h:Q x y) (t:All2 Q xs ys):All2 Q (x::xs) (y::ys)
theorem All2.snoc{α β:Type}{Q:α->β->Prop}{x:α}{y:β}(h:Q x y):∀{xs:List α} {ys:List β},All2 Q xs ys->All2 Q (xs++[x]) (ys++[y])
 |_,_,.nil=>.cons h .nil
 |_,_,.cons q t=>.cons q (All2.snoc h t)
theorem All2.len{α β:Type}{Q:α->β->Prop}:∀{xs:List α} {ys:List β},All2 Q xs ys->ys.length=xs.length
 |_,_,.nil=>rfl
 |_,_,.cons _ t=>by rw[aL,aL,t.len]
theorem All2.rt{α β:Type}{Q:α->β->Prop}:∀{xs:List α} {ys:List β},All2 Q xs ys->∀y∈ys,∃x∈xs,Q x y
 |_,_,.nil,y,hy=>by cases hy
 |_,_,.cons q t,y,hy=>by
  rcases aZ.mp hy with rfl|hy
  .exact⟨_,aY,q⟩
  .obtain⟨x,hx,q⟩:=t.rt y hy;exact⟨x,aQ _ hx,q⟩
noncomputable def hn:Nat->Str
 |0 => "row"
 |1 => "many"
 |_ => "times"
end SHD
namespace ENG
open L2 MI AT HND EVX SHD
open PAP hiding a09 a3w a5g a76 aof
open SRC (cst)
abbrev lsD(l:List Nat):D:=.rol (l.map bz)
theorem aa0(l:List Nat):(l.map λc=>[c]).flatten=l:=by
 induction l with
 |nil=>rfl
 |cons c l ih=>rw[bg,bU,ih];rfl
end ENG
local macro_rules|`(tactic|walk_at "c") => `(tactic|first|assumption|exact MI.dh _|(with_reducible exact EVT.vg)|exact MI.cu _|exact MI.uv _|exact MI.uw|exact MI.dz|((with_reducible apply MI.bj)<;>walk_at "c")|((with_reducible apply MI.jc);walk_at "c")|((with_reducible apply MI.vy);walk_at "c")|((with_reducible apply EVT.qg)<;>walk_at "c")|((with_reducible apply EVT.qb);walk_at "c")|((with_reducible apply EVT.qd);walk_at "c")|((with_reducible apply EVT.v9);walk_at "c")|((with_reducible apply EVT.vf);walk_at "c")|((with_reducible apply EVT.vh)<;>walk_at "c")|exact MI.g8 fun _ _=>MI.dh _|exact MI.g8 fun _ _=>MI.cu _)
local macro_rules|`(tactic|walk_at "h") => `(tactic|first|assumption|exact nlc|exact EVT.m9 (by assumption))
local macro_rules|`(tactic|walk_at "z") => `(tactic|first|assumption|omega|(simp only[aL,bp,ae,aR,b6,aJ,aE,EVT.zy,Int.reduceToNat]<;>omega))
local macro_rules|`(tactic|walk_at "l") => `(tactic|first
 |(with_reducible assumption)
 |(with_reducible exact EVX.a5g)|(with_reducible exact EVX.a3w)|(with_reducible exact MI.a05)|(with_reducible exact ad8)
 |(with_reducible exact ltn)|((with_reducible apply EVT.PuE);with_reducible assumption)
 |((with_reducible apply drz);with_reducible assumption)
 |(with_reducible exact PAP.acy _ _ _)|(with_reducible exact PAP.yo _ _ _)
 |((with_reducible apply PAP.zx);walk_at "z")
 |((with_reducible apply EVT.a6d);walk_at "z")
 |((with_reducible apply EVT.a6e);walk_at "z")
 |(with_reducible exact MI.ym _ _)|(with_reducible exact MI.a5b _)|(with_reducible exact MI.fj _)
 |((with_reducible apply MI.acv);walk_at "z")|((with_reducible apply MI.a9q);walk_at "z")
 |((with_reducible apply MI.acs);walk_at "z")|((with_reducible apply MI.acu);walk_at "z")
 |((with_reducible apply MI.xu);walk_at "z")|((with_reducible apply MI.wk);walk_at "z")
 |((with_reducible apply MI.a69);walk_at "z")|((with_reducible apply MI.a5a);walk_at "z")
 |exact rfl)
local macro_rules|`(tactic|walk_at "x") => `(tactic|first
 |(with_reducible assumption)
 |(with_reducible exact MI.a6o _ _ _)
 |((with_reducible apply MI.bh);exact rfl)
 |(with_reducible exact nlo)|(with_reducible exact onn)
 |((with_reducible apply zds);walk_at "x";exact rfl;walk_at "c";walk_at "h";walk_at "z")
 |((with_reducible apply EVT.yh);walk_at "x";exact rfl;walk_at "c";walk_at "h")
 |((with_reducible apply EVT.yj);walk_at "x";exact rfl;walk_at "h";walk_at "z")
 |((with_reducible apply EVT.a1z);walk_at "x";walk_at "x";exact rfl;walk_at "c";walk_at "c";walk_at "h";walk_at "z")
 |((with_reducible apply EVT.a2a);walk_at "x";walk_at "x";exact rfl;walk_at "c";walk_at "h";walk_at "z";walk_at "z")
 |((with_reducible apply EVT.a0q);walk_at "h")
 |((with_reducible apply MI.jb);walk_at "x";walk_at "x";walk_at "l")
 |((with_reducible apply MI.ae5);walk_at "x";walk_at "l")
 |((with_reducible apply aoo);walk_at "x";walk_at "l")
 |((with_reducible apply cns);walk_at "x";walk_at "x")
 |((with_reducible apply PAP.a3d);walk_at "x";walk_at "x";walk_at "x";walk_at "l")
 |((with_reducible apply PAP.a3c);walk_at "x")
 |((with_reducible apply MI.tof);walk_at "x")
 |((with_reducible apply MI.iy);walk_at "x";walk_at "l")
 |((with_reducible apply MI.um);walk_at "x")|((with_reducible apply MI.a0z);walk_at "x")
 |((with_reducible apply MI.a4a);walk_at "x";walk_at "x")|((with_reducible apply MI.a6p);walk_at "x")
 |((with_reducible apply MI.orT);walk_at "x")|((with_reducible apply MI.orF);walk_at "x";walk_at "x"))
namespace DRW
open L2 MI AT HND EVX SHD
open PAP hiding a09 a3w a5g a76 aof
open SRC (Src)
open SRC (cst)
open ENG
local macro_rules|`(tactic|walk_at "l") => `(tactic|first|(with_reducible exact SHD.ix0)|(with_reducible exact SHD.ix1)|(with_reducible exact SHD.ix3)|(with_reducible exact SHD.ayw)|((with_reducible apply SHD.ayx);exact(by decide))|(with_reducible exact SHD.ayz)|((with_reducible apply SHD.ayy);exact(by decide))|(with_reducible exact SHD.ar4)|(with_reducible exact SHD.a86))
theorem dw{o:O}{N:Nat}{m:Int}(P:Src o N)(hN:N<=1000000000)(m0:0<m)(m1:m<1073741824):∃(r:Nat) (o':O),Dr SRC.ak 2 [.int m] o (bz r) o'/\(r:Int)<m/\Src o' (N+1):=by
 obtain⟨r,o',e,r0,r1,P'⟩:=SRC.abd P hN m0 m1;obtain⟨r,rfl⟩:=eK r0;exact⟨r,o',e,r1,P'⟩
theorem aeg{a b:Nat}{h:Hd}:dm (bz a) (bz b) h=.ok (bz (a+b)) h:=rfl
mutual
def wt:Sh->Nat
 |.one _=>1
 |.row ps=>wts ps
 |.eit ps=>wts ps
 |.many p=>wt p
 |.tim p _ hi=>hi*wt p
def wts:List Sh->Nat
 |[]=>0
 |p::ps=>wt p+wts ps
end
theorem a87:∀(l:List Sh) (s:Sh),wts (l++[s])=wts l+wt s
 |[],s=>by rw[bG,wts,wts,wts];omega
 |p::l,s=>by rw[dH,wts,wts,a87 l s];omega
theorem ahk:∀l:List Sh,((l.map λs=>(wt s:Int)).sum)=(wts l:Nat)
 |[]=>by rw[wts];rfl
 |p::l=>by rw[bg,eL,ahk l,wts];omega
mutual
def pn:Sh->Nat
 |.one _=>1
 |.row ps=>1+pns ps
 |.eit ps=>1+pns ps
 |.many p=>1+pn p
 |.tim p _ _=>1+pn p
def pns:List Sh->Nat
 |[]=>0
 |p::ps=>pn p+pns ps
end
theorem ahl:∀(l:List Sh) (s:Sh),pns (l++[s])=pns l+pn s
 |[],s=>by rw[bG,pns,pns,pns];omega
 |p::l,s=>by rw[dH,pns,pns,ahl l s];omega
def bc:Nat->SF
 |0=>λ_ _=>.no
 |n+1=>jt (uh (bc n)) 1
theorem a4o(x:Str)(h:Hd):gIn false (.str x) (.tup [.str "row",.str "either"]) h=.ok (.bl (("row" : Str) == x || (("either" : Str) == x || false))) h:=rfl
theorem a3x{tg:List Nat}:∀(d n:Nat),d<=n->∀s,a1d tg d s->Pu (bc n) 1 [sd s] (bz (wt s))
 |0,_,_,_,k=>k.elim
 |d+1,0,h,_,_=>absurd h (by omega)
 |d+1,n+1,h,s,k=>by
  have ih:=a3x (tg:=tg) d n (by omega)
  refine Pu.of rfl (by simp[a2n]) (r:=.ok (bz (wt s)) []) ?_ (km (dh _) (by simp)) (dh _)
  show jt (uh (bc n)) 1 [sd s] []=_;rw[du];show toR (uh (bc n) [some (sd s)] [])=_;unfold uh;have many:∀(hd:Str) (ps:List Sh),(∀p∈ps,a1d tg d p)->ps.length<=6->sA a71 (aj (sZ (mj (sIt (s2 gIx (sV 0) (sI 1))) MI.t1 (qi (bc n)) [])) aq) [some (.tup [.str hd,.tup (sds ps)])] []=.ok (bz (wts ps)) []:=λhd ps kp lp=>by
   have z:sZ (mj (sIt (s2 gIx (sV 0) (sI 1))) MI.t1 (qi (bc n)) []) [some (.tup [.str hd,.tup (sds ps)])] []=.ok (.rol ((ps.map λs=>(wt s:Int)).map D.int)) []:=by
    refine a4x ?_ (g8 λ_ _=>dh _) (by simp)
    rw[cQ];refine qj sd (λs=>D.int (wt s:Int)) ps (a75 (nj rfl rfl) (by rw[a0e];rfl)) (bx (by omega)) λp hp=>?_
    rw[v5];unfold qi;exact jo (bh rfl) (ih p (kp p hp) [])
   refine jo z ?_;unfold a71;simp only[SRC.ints_map,ahk]
  match s,k with
  |.one sg,k =>
   rw[sd,wt];exact ah toR (jd (ai (ifT (by walk_at "x")) (fu ckk)))
  |.row ps,k =>
   rw[sd,wt];refine eti (by walk_at "x") ?_
   exact ah toR (jd (ifr (t2s (nj rfl SHD.ix0) (lq ckk ckk a05) (a4o _ _)) (many _ ps k.2 k.1)))
  |.eit ps,k =>
   rw[sd,wt];refine eti (by walk_at "x") ?_
   exact ah toR (jd (ifr (t2s (nj rfl SHD.ix0) (lq ckk ckk a05) (a4o _ _)) (many _ ps k.2.2 k.2.1)))
  |.many p,k =>
   rw[sd,wt];have c1:=ih p k;refine eti (by walk_at "x") ?_
   refine eti (t2s (nj rfl SHD.ix0) (lq ckk ckk a05) (a4o _ _)) ?_;exact ah toR (jd (ifr (by walk_at "x") (by walk_at "x")))
  |.tim p lo hi,k =>
   rw[sd,wt];have c1:=ih p k.2.2;have h4:=k.2.1;refine eti (by walk_at "x") ?_
   refine eti (t2s (nj rfl SHD.ix0) (lq ckk ckk a05) (a4o _ _)) ?_;refine eti (by walk_at "x") ?_
   have m:yq (bz hi) (bz (wt p)) []=.ok (bz (hi*wt p)) []:=a2l.trans ((av (.inl ⟨by omega,by omega⟩)).trans (by rw[<-fZ]))
   exact ah toR (fu (jb (nj rfl SHD.ix3) (jo (nj rfl SHD.ix1) (c1 _)) m))
def jy:SF:=jt (a0l SRC.ak) 7
theorem aq8{tg:List Nat}(t1:1<=tg.length)(t6:tg.length<=6)(nd:tg.Nodup){o:O}{N:Nat}(P:Src o N)(hN:N<=999999000):∃l o',1<=l.length/\l.length<=tg.length/\l.Nodup/\(∀c∈l,c∈tg)/\Dr jy 2 [.str (S tg)] o (.str (S l)) o'/\Src o' (N+8):=by
 have lt:∀h,kj [.str (S tg)] h=.ok (bz tg.length) h:=λh=>a4z (bx (by omega))
 obtain⟨many,o1,m1,m6,P1,pre⟩:∃(many:Nat) (o1:O),1<=many/\many<=tg.length/\Src o1 (N+2)/\∀g:SS,gh (sIf (sT (s2 hEq (sA (gm false 2 SRC.ak) (aj (sV 0) (aj (sI 2) aq))) (sI 0))) (j5 4 (s2 dm (sI 1) (sA (gm false 2 SRC.ak) (aj (sV 0) (aj (sA kj (aj (sV 1) aq)) aq))))) sNx) g [some (.ref 0),some (.str (S tg)),some (.str (S tg)),some (.str (S [])),some (.int 1),none,none] [o]=g [some (.ref 0),some (.str (S tg)),some (.str (S tg)),some (.str (S [])),some (bz many),none,none] [o1]:=by
  obtain⟨q,u,e,_,Q⟩:=dw (m:=2) P (by omega) (by decide) (by decide)
  by_cases hq:q=0
  .obtain⟨r,u',e',r1,Q'⟩:=dw (m:=(tg.length:Int)) Q (by omega) (by omega) (by omega)
   refine⟨1+r,u',by omega,by omega,Q',λg=>rm (ai (ifT (t2s (lq (bh rfl) ckk (e 0 _ rfl)) ckk (xu (by omega)))) (av5 (jb ckk (lq (bh rfl) (jo (bh rfl) (lt _)) (e' 0 _ rfl)) aeg)))⟩
  .exact⟨1,u,by omega,by omega,Q.up (by omega),λg=>ifN (t2s (lq (bh rfl) ckk (e 0 _ rfl)) ckk (wk (by omega)))⟩
 obtain⟨τ',h',e2,aG,told,u,t5,t6',rfl,rfl,P2,l1,l2,nd',sb⟩:=a3s (g:=kN 5) (b:=yr SRC.ak) bz
  (λpre τ h=>∃(aG told:List Nat) (u:O) (t5 t6:Option D),τ=[some (.ref 0),some (.str (S tg)),some (.str (S aG)),some (.str (S told)),some (bz many),t5,t6]/\h=[u]/\Src u (N+2+pre.length)/\told.length=pre.length/\(told++aG).length=tg.length/\(told++aG).Nodup/\∀c∈told++aG,c∈tg)
  (List.range many) [some (.ref 0),some (.str (S tg)),some (.str (S tg)),some (.str (S [])),some (bz many),none,none] [o1] (by
   rintro pre i post τ h al ⟨aG,told,u,t5,t6',rfl,rfl,P2,l1,l2,nd',sb⟩
   have aH:pre.length<many:=by
    have:=ah List.length al
    simp at this;omega
   rw[ae]at l2;obtain⟨j,u',e2,rb,P3⟩:=dw (m:=(aG.length:Int)) P2 (by omega) (by omega) (by omega)
   have hj:j<aG.length:=by omega
   have gx:aG[j]? = some aG[j]:=a8 hj;have pp:=a9t told aG j aG[j] gx;refine⟨_,_,rfl,_,_,?_,aG.take j++aG.drop (j+1),told++[aG[j]],u',some (bz i),some (bz j),rfl,rfl,by simpa[gy] using P3,by simp[l1],?_,pp.nodup_iff.mp nd',λc hc=>sb c (pp.mem_iff.mpr hc)⟩
   .unfold yr;refine ai (j9 (lq (bh rfl) (jo (bh rfl) (a4z (bx (by omega)))) (e2 0 [u] rfl))) ?_
    refine ai (rm (ae6 rfl (jb (bh rfl) (bh rfl) (aku (bx (by omega)) gx)) (SRC.an9 (bx (by simp;omega))))) ?_
    exact av5 (jb (SRC.ale (bh rfl) rfl (SRC.ald (bh rfl)) (akv j (bx (by omega)))) (SRC.ale (bh rfl) (SRC.ald (nj rfl a0y)) rfl (a74 (j+1) (bx (by omega)))) (a2v (bx (by simp;omega))))
   .rw[<-pp.length_eq];simpa using l2) ⟨tg,[],o1,none,none,rfl,rfl,P1,rfl,rfl,nd,λc hc=>hc⟩
 rw[c8]at P2 l1;refine⟨told,u,by omega,by omega,(bA.mp nd').1,λc hc=>sb c (e9 _ hc),Dr.of rfl (by simp[cu]) P.clo (r:=.ok (.str (S told)) [u]) ?_ (km (cu _) (by simpa using a0d (by omega) P2.clo)) (cu _) P2.clo,P2.up (by omega)⟩
 unfold jy;rw[du];show toR (a0l SRC.ak [some (.ref 0),some (.str (S tg)),none,none,none,none,none] [o])=_;unfold a0l;refine ets (bh rfl) ?_;refine etr (j9 ckk) ?_;refine etr (j9 ckk) ?_;refine etr (pre _) ?_;refine etr (a9o (ab3 (n:=many) (bh rfl) (bx (by omega)))) ?_
 refine ai (ah (λz=>toR (MI.thn z _)) e2) ?_;exact ah toR (fu (bh rfl))
mutual
def Nd:Sh->Prop
 |.one s=>s.Nodup
 |.row ps=>Nds ps
 |.eit ps=>Nds ps
 |.many p=>Nd p
 |.tim p _ _=>Nd p
def Nds:List Sh->Prop
 |[]=>True
 |p::ps=>Nd p/\Nds ps
end
theorem ahm:∀{l:List Sh} {s:Sh},Nds l->Nd s->Nds (l++[s])
 |[],s,_,h=>by rw[bG,Nds,Nds];exact⟨h,trivial⟩
 |p::l,s,a,h=>by rw[Nds]at a;rw[dH,Nds];exact⟨a.1,ahm a.2 h⟩
def Dr5(F:SF)(a b c:D)(o q:O)(d:D)(o' q':O):Prop:=∀i j h,i≠j->h[i]? = some o->h[j]? = some q->gm false 5 F [.ref i,a,b,c,.ref j] h=.ok d ((h.set i o').set j q')
theorem Dr5.of{F:SF}{x:Str}{y z:Int}{o o' q q':O}{r:R D}{d:D}(co:yc 0 o)(cq:yc 0 q)(e:F [.ref 0,.str x,.int y,.int z,.ref 1] [o,q]=r)(zz:a9a 2 r=.ok d [o',q'])(c:clo 0 d)(co':yc 0 o')(cq':yc 0 q'):Dr5 F (.str x) (.int y) (.int z) o q d o' q':=λi j h ne hi hj=>by
 have e1:a0s [.ref i,.str x,.int y,.int z,.ref j]=[i,j]:=rfl;have e2:a0c 0 [.ref i,.str x,.int y,.int z,.ref j]=[.ref 0,.str x,.int y,.int z,.ref 1]:=rfl;unfold gm;rw[av (by rfl:([D.ref i,D.str x,D.int y,D.int z,D.ref j]:List D).length=5)]
 unfold amq;rw[e1];simp only[a1a,hi,hj,aL,bp,cK,eP,eV,Nat.reduceAdd];have all:∀v∈[D.ref i,.str x,.int y,.int z,.ref j],clo 0 v\/isRef v:=λv hv=>by
  simp only[aZ,cE,ff]at hv
  rcases hv with rfl|rfl|rfl|rfl|rfl
  .exact .inr ⟨i,rfl⟩
  .exact .inl (cu _)
  .exact .inl (dh _)
  .exact .inl (dh _)
  .exact .inr ⟨j,rfl⟩
 rw[av ⟨by simp[ne],all,λu hu=>by simp only[aZ,cE,ff]at hu;rcases hu with rfl|rfl;exact co;exact cq⟩,e2,e,zz]
 simp[c,co',cq',ug]
theorem b02{F:SF}{a b c:D}{o o' p p':O}{d:D}{h:Hd}(q:Dr5 F a b c o p d o' p'):gm false 5 F [.ref 0,a,b,c,.ref 1] (o::p::h)=.ok d (o'::p'::h):=q 0 1 (o::p::h) (by decide) rfl rfl
def gf:Nat->SF
 |0=>λ_ _=>.no
 |n+1=>jt (wj SRC.ak jy (gf n) (bc 5)) 11
def Drawn(tg:List Nat)(n d:Nat):Prop:=∀(o:O) (N p:Nat) (x:Int),Src o N->N+bnd d<=900000000->p<=1000->∃s o',a1d tg d s/\wt s<=p/\Nd s/\Dr5 (gf n) (.str (S tg)) (bz d) (bz p) o (.lst [.int x]) (sd s) o' (.lst [.int (x-pn s)])/\Src o' (N+bnd d)
def Res(tg:List Nat)(d N p:Nat)(x:Int)(r:R D):Prop:=∃s o' hs,r=.ok (sd s) (o'::.lst [.int (x-pn s)]::hs)/\a1d tg d s/\wt s<=p/\Nd s/\Src o' N
theorem Res.tr{tg:List Nat}{d N p:Nat}{x:Int}{r r':R D}(e:r=r')(q:Res tg d N p x r'):Res tg d N p x r:=e ▸ q
theorem Res.to{tg:List Nat}{d N p n:Nat}{o:O}{x:Int}{r:R D}(co:yc 0 o)(e:gf n [.ref 0,.str (S tg),bz d,bz p,.ref 1] [o,.lst [.int x]]=r)(q:Res tg d N p x r):∃s o',a1d tg d s/\wt s<=p/\Nd s/\Dr5 (gf n) (.str (S tg)) (bz d) (bz p) o (.lst [.int x]) (sd s) o' (.lst [.int (x-pn s)])/\Src o' N:=by
 obtain⟨s,o',hs,e',k,w,nd,P⟩:=q;exact⟨s,o',k,w,nd,Dr5.of co (a85 _) (e.trans e') (b01 (a2n s) P.clo (a85 _)) (a2n s) P.clo (a85 _),P⟩
theorem alf{tg:List Nat}{n d p:Nat}{o:O}{x:Int}:gf (n+1) [.ref 0,.str (S tg),bz d,bz p,.ref 1] [o,.lst [.int x]]=toR (wj SRC.ak jy (gf n) (bc 5) [some (.ref 0),some (.str (S tg)),some (bz d),some (bz p),some (.ref 1),none,none,none,none,none,none] [o,.lst [.int x]]):=by
 show jt (wj SRC.ak jy (gf n) (bc 5)) 11 [.ref 0,.str (S tg),bz d,bz p,.ref 1] [o,.lst [.int x]]=_;rw[du];rfl
theorem ix8(r:Nat)(h:r<8)(h':Hd):∃m:Nat,1<=m/\m<=6/\gIx (.tup [.int 1,.int 2,.int 2,.int 3,.int 3,.int 4,.int 5,.int 6]) (bz r) h'=.ok (bz m) h':=by
 rcases r with _|_|_|_|_|_|_|_|r
 .exact⟨1,by decide,by decide,rfl⟩
 .exact⟨2,by decide,by decide,rfl⟩
 .exact⟨2,by decide,by decide,rfl⟩
 .exact⟨3,by decide,by decide,rfl⟩
 .exact⟨3,by decide,by decide,rfl⟩
 .exact⟨4,by decide,by decide,rfl⟩
 .exact⟨5,by decide,by decide,rfl⟩
 .exact⟨6,by decide,by decide,rfl⟩
 .omega
theorem ixq{o:O}{v:D}{h:Hd}:gIx (.ref 1) (.int 0) (o::.lst [v]::h)=.ok v (o::.lst [v]::h):=rfl
local macro_rules|`(tactic|walk_at "l") => `(tactic|first|((with_reducible apply b02);with_reducible assumption)|(with_reducible exact ixq)|(with_reducible exact subn)|(with_reducible exact ar4))
theorem a7b{tg:List Nat}(t1:1<=tg.length)(t6:tg.length<=6)(nd:tg.Nodup){n d:Nat}(hd:d<=4)(ih:0<d->Drawn tg n d):Drawn tg (n+1) (d+1):=by
 intro o N p x P hN hp
 have bl:=anb d;have be:bnd (d+1)=7*bnd d:=rfl;refine Res.to P.clo alf ?_;unfold wj;obtain⟨r,o1,e1,r1,P1⟩:=dw (m:=9) P (by omega) (by decide) (by decide)
 have pu:put (.ref 1) (.int 0) (.int (x-1)) [o,.lst [.int x]]=some [o,.lst [.int (x-1)]]:=rfl;refine Res.tr (ah toR (rm (SRC.ax6 (bh rfl) ckk (SRC.ad4 (i:=1) (j:=0) rfl rfl) ckk (ym _ _) pu))) ?_;refine Res.tr (ah toR (j9 (by walk_at "x"))) ?_
 by_cases leaf:d=0\/x-1<1\/r=0
 .have c:sOr (sT (s2 hEq (sV 2) (sI 1))) (sOr (sT (s2 gLt (s2 gIx (sV 4) (sI 0)) (sI 1))) (sT (s2 hEq (sV 5) (sI 0)))) [some (.ref 0),some (.str (S tg)),some (bz (d+1)),some (bz p),some (.ref 1),some (bz r),none,none,none,none,none] [o1,.lst [.int (x-1)]]=.ok true [o1,.lst [.int (x-1)]]:=by
   by_cases a:d=0
   .exact orT (by walk_at "x")
   .by_cases b:x-1<1
    .exact orF (by walk_at "x") (orT (by walk_at "x"))
    .have:r=0:=by omega
     exact orF (by walk_at "x") (orF (by walk_at "x") (by walk_at "x"))
  have emp:∀u:O,Src u (N+2)->Res tg (d+1) (N+bnd (d+1)) p x (.ok (sd (.row [])) [u,.lst [.int (x-1)]]):=λu Q=>⟨.row [],u,[],by rw[pn,pns];simp,⟨by simp,by simp⟩,by rw[wt,wts];omega,by rw[Nd,Nds];trivial,Q.up (by omega)⟩
  by_cases p0:p=0
  .refine Res.tr (ah toR (jd (ai (ifT c) (jd (ifr (orT (by walk_at "x")) (by walk_at "x")))))) (emp o1 (P1.up (by omega)))
  .obtain⟨q,o2,e2,q1,P2⟩:=dw (m:=8) P1 (by omega) (by decide) (by decide)
   by_cases q0:q=0
   .refine Res.tr (ah toR (jd (ai (ifT c) (jd (ifr (orF (by walk_at "x") (by walk_at "x")) (by walk_at "x")))))) (emp o2 P2)
   .obtain⟨l,o3,l1,l2,l3,l4,e3,P3⟩:=aq8 t1 t6 nd P2 (by omega)
    refine Res.tr (ah toR (jd (ai (ifT c) (ai (ifN (orF (by walk_at "x") (by walk_at "x"))) (fu (by walk_at "x")))))) ?_
    exact⟨.one l,o3,[],by rw[pn];rfl,⟨l1,by omega,l4⟩,by rw[wt];omega,by rw[Nd];exact l3,P3.up (by omega)⟩
 .have d0:¬ d=0:=λz=>leaf (.inl z);have xp:¬ x-1<1:=λz=>leaf (.inr (.inl z));have rp:¬ r=0:=λz=>leaf (.inr (.inr z));refine Res.tr (ah toR (ifN (orF (by walk_at "x") (orF (by walk_at "x") (by walk_at "x"))))) ?_
  have ih:=ih (by omega)
  obtain⟨d,rfl⟩:∃d',d=d'+1:=⟨d-1,by omega⟩
  by_cases h3:r<3
  .obtain⟨s,o3,k3,w3,n3,e3,P3⟩:=ih o1 (N+1) p (x-1) P1 (by omega) hp
   refine Res.tr (ah toR (jd (ifr (by walk_at "x") (by walk_at "x")))) ?_
   exact⟨.many s,o3,[],by rw[sd,pn,show x-1-(pn s:Int)=x-((1+pn s:Nat):Int) by omega];rfl,k3,by rw[wt];exact w3,by rw[Nd];exact n3,P3.up (by omega)⟩
  .refine Res.tr (ah toR (ifN (by walk_at "x"))) ?_
   by_cases h5:r<5
   .obtain⟨hi,o2,e2,b1,P2⟩:=dw (m:=5) P1 (by omega) (by decide) (by decide)
    obtain⟨lo,o3,e3,c1,P3⟩:=dw (m:=(hi:Int)+1) P2 (by omega) (by omega) (by omega)
    obtain⟨m,hm,m1,mw⟩:∃m:Nat,a95 [.int 1,bz hi] [o3,.lst [.int (x-1)]]=.ok (bz m) [o3,.lst [.int (x-1)]]/\1<=m/\m<=4/\hi<=m:=by
     refine⟨(if (hi:Int) > 1 then (hi:Int) else 1).toNat,?_,?_⟩
     .show R.ok (D.int (if (hi:Int) > 1 then (hi:Int) else 1)) _=_
      rw[show bz (if (hi:Int) > 1 then (hi:Int) else 1).toNat=D.int (if (hi:Int) > 1 then (hi:Int) else 1) from ah D.int (by split<;>omega)]
     .split<;>omega
    obtain⟨s,o4,k4,w4,n4,e4,P4⟩:=ih o3 (N+1+1+1) (p / m) (x-1) P3 (by omega) (bE (Nat.div_le_self _ _) hp)
    have dv:a6m (bz p) (bz m) [o3,.lst [.int (x-1)]]=.ok (bz (p / m)) [o3,.lst [.int (x-1)]]:=(div_ii ⟨by omega,by omega⟩).trans (by rw[<-Int.natCast_ediv])
    refine Res.tr (ah toR (jd (ai (ifT (by walk_at "x")) (ai (j9 (by walk_at "x")) (ai (j9 (lq (bh rfl) (nj rfl ar4) (drz e3))) (fu (aoo (cns ckk (cns (aoo (cns (bh rfl) (cns (bh rfl) (cns (nj rfl subn) (cns (jb (bh rfl) (lq ckk (bh rfl) hm) dv) (cns (bh rfl) nlo))))) (b02 e4)) (cns (bh rfl) (cns (bh rfl) nlo)))) ayv))))))) ?_
    refine⟨.tim s lo hi,o4,[],by rw[sd,pn,show x-1-(pn s:Int)=x-((1+pn s:Nat):Int) by omega];rfl,⟨by omega,by omega,k4⟩,?_,by rw[Nd];exact n4,P4.up (by omega)⟩
    rw[wt];exact bE (Nat.mul_le_mul mw.2 w4) (Nat.mul_div_le p m)
   .refine Res.tr (ah toR (ifN (by walk_at "x"))) ?_
    obtain⟨q,o2,e2,q1,P2⟩:=dw (m:=8) P1 (by omega) (by decide) (by decide)
    obtain⟨k,k1,k6,hk⟩:=ix8 q (by omega) [o2,.lst [.int (x-1)],.lst []]
    have nl:MI.ye [] [o1,.lst [.int (x-1)]]=.ok (.ref 2) [o1,.lst [.int (x-1)],.lst []]:=av (bx (by simp))
    refine Res.tr (ah toR (j9 (aoo nlo nl))) ?_;have t8:MI.dj [.int 1,.int 2,.int 2,.int 3,.int 3,.int 4,.int 5,.int 6] [o1,.lst [.int (x-1)],.lst []]=.ok (.tup [.int 1,.int 2,.int 2,.int 3,.int 3,.int 4,.int 5,.int 6]) [o1,.lst [.int (x-1)],.lst []]:=by unfold MI.dj;rw[av (bx (by simp))]
    have it:sRg a02 (aj (s2 gIx (sA MI.dj (aj (sI 1) (aj (sI 2) (aj (sI 2) (aj (sI 3) (aj (sI 3) (aj (sI 4) (aj (sI 5) (aj (sI 6) aq))))))))) (sA (gm false 2 SRC.ak) (aj (sV 0) (aj (sI 8) aq)))) aq) [some (.ref 0),some (.str (S tg)),some (bz (d+1+1)),some (bz p),some (.ref 1),some (bz r),none,none,some (.ref 2),none,none] [o1,.lst [.int (x-1)],.lst []]=.ok ⟨(List.range k).map bz,λ_=>True⟩ [o2,.lst [.int (x-1)],.lst []]:=by
     unfold sRg;rw[arg1 (jb (aoo (cns ckk (cns ckk (cns ckk (cns ckk (cns ckk (cns ckk (cns ckk (cns ckk nlo)))))))) t8) (lq (bh rfl) ckk (drz e2)) hk),bw];exact acq _ (bx (by omega))
    refine Res.tr (ah toR (a9o it)) ?_;obtain⟨τ',h',e3,ss,o3,t9,t10,rfl,rfl,P3,ks,ws,ns,sl,s1⟩:=a3s (g:=kN 9) (b:=u6 SRC.ak jy (gf n) (bc 5)) bz
     (λpre τ h=>∃(ss:List Sh) (o':O) (t9 t10:Option D),τ=[some (.ref 0),some (.str (S tg)),some (bz (d+1+1)),some (bz (p-wts ss)),some (.ref 1),some (bz r),none,none,some (.ref 2),t9,t10]/\h=[o',.lst [.int (x-1-pns ss)],.lst (ss.map sd)]/\Src o' (N+2+pre.length*bnd (d+1))/\(∀s∈ss,a1d tg (d+1) s)/\wts ss<=p/\Nds ss/\ss.length<=pre.length/\(1<=pre.length->1<=ss.length))
     (List.range k) [some (.ref 0),some (.str (S tg)),some (bz (d+1+1)),some (bz p),some (.ref 1),some (bz r),none,none,some (.ref 2),none,none] [o2,.lst [.int (x-1)],.lst []] (by
      rintro pre i post τ h al ⟨ss,o',t9,t10,rfl,rfl,P',ks,ws,ns,sl,s1⟩
      have hl:pre.length<k:=by
       have:=ah List.length al
       simp at this;omega
      have kb:(pre.length+1)*bnd (d+1)<=6*bnd (d+1):=bK _ (by omega)
      rw[dS]at kb;refine⟨_,_,rfl,?_⟩;show ∃τ2 h2,u6 SRC.ak jy (gf n) (bc 5) [some (.ref 0),some (.str (S tg)),some (bz (d+1+1)),some (bz (p-wts ss)),some (.ref 1),some (bz r),none,none,some (.ref 2),some (bz i),t10] [o',.lst [.int (x-1-pns ss)],.lst (ss.map sd)]=.nx τ2 h2/\_;unfold u6
      by_cases room:0<x-1-(pns ss:Int)
      .obtain⟨s,o5,k5,w5,n5,e5,P5⟩:=ih o' _ (p-wts ss) (x-1-pns ss) P' (by omega) (by omega)
       have c1:=a3x (d+1) 5 (by omega) s k5
       have sb:MI.a3h (bz (p-wts ss)) (bz (wt s)) [o5,.lst [.int (x-1-pns ss-pn s)],.lst (ss.map sd)]=.ok (bz (p-wts (ss++[s]))) [o5,.lst [.int (x-1-pns ss-pn s)],.lst (ss.map sd)]:=by
        rw[ym,a87,show((p-wts ss:Nat):Int)-(wt s:Nat)=((p-(wts ss+wt s):Nat):Int) by omega]
       refine⟨_,_,ai (ifT (by walk_at "x")) (ai (j9 (by walk_at "x")) (ai (rm (ae6 rfl (jo (bh rfl) (c1 _)) sb)) (a9n (bh rfl) rfl (cns (bh rfl) nlo) (acr (i:=2) rfl (acw (by simp;omega)))))),ss++[s],o5,some (bz i),some (sd s),rfl,?_,?_,?_,?_,?_,?_,?_⟩
       .rw[cJ,ahl];show[o5,O.lst [.int (x-1-pns ss-pn s)],.lst (ss.map sd++[sd s])]=_;rw[show x-1-(pns ss:Int)-(pn s:Int)=x-1-((pns ss+pn s:Nat):Int) by omega]
        rfl
       .rw[ae,aE,dS,<-gy];exact P5
       .intro u hu
        rcases bb.mp hu with hu|hu
        .exact ks u hu
        .rw[aK.mp hu];exact k5
       .rw[a87];omega
       .exact ahm ns n5
       .rw[ae,ae,aE,aE];omega
       .intro _;rw[ae,aE];omega
      .refine⟨_,_,ifF (by walk_at "x"),ss,o',some (bz i),t10,rfl,rfl,P'.up ?_,ks,ws,ns,?_,?_⟩
       .rw[ae,aE,dS];omega
       .rw[ae];omega
       .intro _
        by_cases z:1<=pre.length
        .exact s1 z
        .exfalso
         have:ss.length=0:=by omega
         rw[dG.mp this,pns]at room;omega) ⟨[],o2,none,none,by rw[wts];rfl,by rw[pns];simp,by simpa using P2,by simp,by rw[wts];omega,by rw[Nds];trivial,by simp,by simp⟩
    rw[c8]at P3 sl s1;have kb:k*bnd (d+1)<=6*bnd (d+1):=bK _ k6;refine Res.tr (ah (λz=>toR (MI.thn z _)) e3) ?_;rw[a1l];have tp:u5 [.ref 2] [o3,.lst [.int (x-1-pns ss)],.lst (ss.map sd)]=.ok (.tup (ss.map sd)) [o3,.lst [.int (x-1-pns ss)],.lst (ss.map sd)]:=agx rfl;have xe:x-1-(pns ss:Int)=x-((1+pns ss:Nat):Int):=by omega
    by_cases h7:r<7
    .have g1:a6m (bz r) (.int 7) [o3,.lst [.int (x-1-pns ss)],.lst (ss.map sd)]=.ok (bz 0) [o3,.lst [.int (x-1-pns ss)],.lst (ss.map sd)]:=(div_ii ⟨by decide,by decide⟩).trans (by rw[show(r:Int) / 7=((0:Nat):Int) by omega])
     refine Res.tr (ah toR (fu (lq (jb (lq ckk ckk a05) (nj rfl g1) (a6q (j:=0) rfl)) (jo (bh rfl) tp) a05))) ?_;exact⟨.row ss,o3,[.lst (ss.map sd)],by rw[sd,a0e,pn,xe];rfl,⟨by omega,ks⟩,by rw[wt];exact ws,by rw[Nd];exact ns,P3.up (by omega)⟩
    .have g1:a6m (bz r) (.int 7) [o3,.lst [.int (x-1-pns ss)],.lst (ss.map sd)]=.ok (bz 1) [o3,.lst [.int (x-1-pns ss)],.lst (ss.map sd)]:=(div_ii ⟨by decide,by decide⟩).trans (by rw[show(r:Int) / 7=((1:Nat):Int) by omega])
     refine Res.tr (ah toR (fu (lq (jb (lq ckk ckk a05) (nj rfl g1) (a6q (j:=1) rfl)) (jo (bh rfl) tp) a05))) ?_;exact⟨.eit ss,o3,[.lst (ss.map sd)],by rw[sd,a0e,pn,xe];rfl,⟨s1 (by omega),by omega,ks⟩,by rw[wt];exact ws,by rw[Nd];exact ns,P3.up (by omega)⟩
theorem ad5{tg:List Nat}(t1:1<=tg.length)(t6:tg.length<=6)(nd:tg.Nodup):∀(d n:Nat),d<=4->d<=n->Drawn tg (n+1) (d+1)
 |0,n,_,_=>a7b t1 t6 nd (by omega) λz=>absurd z (by omega)
 |d+1,0,_,h=>absurd h (by omega)
 |d+1,n+1,h,h'=>a7b t1 t6 nd h λ_=>ad5 t1 t6 nd d n (by omega) (by omega)
theorem alg{α β:Type}{fi:SI}{t:D->Option Sd}{fe:SE}{ix:List Nat}{τ:Sd}{o0 o:O}{hs:Hd}(xs:List α)(g:α->D)(k:β->D)(Q:α->β->Prop){N B M:Nat}(P:Src o N)(hM:N+xs.length*B<=M)(z:xs.length<=1000000)(ch:∀u∈hs,yc 0 u)
  (e:fi τ (o0::hs)=.ok ⟨xs.map g,λ_=>True⟩ (o::hs)) (st:∀x∈xs,∀o N,Src o N->N+B<=M->∃y o',a2t t fe (frs' ix τ) (g x) (o::hs)=.ok (k y) (o'::hs)/\MI.clo 0 (k y)/\Q x y/\Src o' (N+B)) :
  ∃ys o',sZ (mj fi t fe ix) τ (o0::hs)=.ok (.rol (ys.map k)) (o'::hs)/\All2 Q xs ys/\Src o' (N+xs.length*B)/\clos 0 (ys.map k):=by
 have mp:=acj (f:=a2t t fe (frs' ix τ)) g (λpre zs h=>∃(ys:List β) (o':O),zs=ys.map k/\h=o'::hs/\Src o' (N+pre.length*B)/\All2 Q pre ys/\clos 0 (ys.map k)) xs [] [] (o::hs) ?_ ⟨[],o,rfl,rfl,by simpa using P,.nil,dz⟩
 .obtain⟨zs,h',mp,ys,o',zq,rfl,P',q,cl⟩:=mp;simp only[bG]at zq P' q;subst zq;refine⟨ys,o',EVT.aq5 ?_ rfl cl (λu hu=>?_),q,P',cl⟩
  .unfold mj;rw[e,bw];dsimp only;rw[av (bx (by rw[aJ];exact z)),mp]
   rfl
  .rcases aZ.mp hu with rfl|hu
   .exact P'.clo
   .exact ch u hu
 .rintro pre x post zs h al ⟨ys,o',rfl,rfl,P',q,cl⟩
  have al:xs=pre++x::post:=al;have hl:pre.length+1<=xs.length:=by rw[al];simp
  have kb:(pre.length+1)*B<=xs.length*B:=bK _ hl;rw[dS]at kb;obtain⟨y,o'',e',cy,qy,P''⟩:=st x (by rw[al];simp) o' _ P' (by omega)
  refine⟨k y,o''::hs,e',ys++[y],o'',by simp,rfl,?_,q.snoc qy,?_⟩
  .rw[ae,aE,dS];exact P''.up (by omega)
  .rw[cJ];exact EVT.qg cl (bj cy dz)
noncomputable def az:List Nat:=("abcdefghijklmnopqrstuvwxyz" : Str).cps.toList
theorem a7c:az.length=26:=by decide +kernel
theorem az0:az.Nodup:=by decide +kernel
theorem b03:("abcdefghijklmnopqrstuvwxyz" : Str)=S az:=by
 unfold az
 generalize ("abcdefghijklmnopqrstuvwxyz" : Str)=z
 obtain⟨cps⟩:=z;rfl
theorem az1{c:Nat}(hc:c∈az)(h:Hd):∃j,j<26/\az[j]? = some c/\ac6 (.str (S az)) [.str (S [c])] h=.ok (bz j) h:=by
 obtain⟨i,e1,e2,_⟩:=abu (T:=S az) (c:=c) (by rw[yu];exact hc)
 rw[yu]at e2;have hi:=(ag.mp e2).1;rw[a7c]at hi;refine⟨i,hi,e2,?_⟩;show(if c∈(S az).cps.toList then MI.R.ok (D.int (aai (S az) c)) h else .no)=_
 rw[av (by rw[yu];exact hc),e1]
abbrev nmD(x:List Nat):D:=.str (S x)
theorem a4p(l:List (List Nat)):clos 0 (l.map nmD):=g8 λ_ _=>cu _
theorem ane{x:List Nat}{l:List (List Nat)}{h:Hd}{i:Nat}(e:h[i]? = some (.lst (l.map nmD))):gIn false (nmD x) (.ref i) h=.ok (.bl (decide (x∈l))) h:=by
 have go:∀l:List (List Nat),inD (nmD x) (l.map nmD)=decide (x∈l):=λl=>by
  induction l with
  |nil=>simp[inD]
  |cons y l ih =>
   show(eqF (nmD y) (nmD x) || inD (nmD x) (l.map nmD))=_
   rw[ih];show((S y == S x) || decide (x∈l))=_
   rw[av2]
   by_cases q:y=x
   .subst q;simp
   .simp[q,eD q]
 have fl:(l.map nmD).all a03=true:=by
  rw[aM]
  intro y hy
  obtain⟨z,_,rfl⟩:=bD.mp hy;rfl
 unfold gIn;dsimp only;have sq:xn (.ref i) h=some (l.map nmD):=by unfold xn;simp only[e]
 simp only[sq];rw[av ⟨rfl,fl⟩,aO (by decide),go]
theorem aq9{l:List (List Nat)}{h:Hd}{i:Nat}(e:h[i]? = some (.lst (l.map nmD))):aa5 true (.ref i) (.rol []) h=.ok (.bl (!l.isEmpty)) h:=by
 have a:zg (.ref i) h=some (l.map nmD):=by unfold zg;simp only[e]
 unfold aa5;rw[a];show(if (l.map nmD).all (pur 59)=true/\([]:List D).all (pur 59)=true then R.ok (D.bl (if true=true then !a97 (l.map nmD) [] else a97 (l.map nmD) [])) h else .no)=_
 rw[av ⟨by rw[aM];intro x hx;obtain⟨y,_,rfl⟩:=bD.mp hx;rfl,rfl⟩]
 cases l<;>rfl
theorem aqa{xs:List D}{h:Hd}{i:Nat}{d:D}(e:h[i]? = some (.lst xs))(hx:xs[xs.length-1]? = some d):gIx (.ref i) (.int (-1)) h=.ok d h:=by
 have lt:xs.length-1<xs.length:=(ag.mp hx).1;have n:ixN xs.length (-1)=some (xs.length-1):=by
  unfold ixN;rw[aO (by omega),av (by omega)]
  congr 1
  omega
 have sq:xn (.ref i) h=some xs:=by unfold xn;simp only[e]
 unfold gIx;simp only[sq,atI,n,Option.bind_some,hx]
theorem ahn{α:Type}[DecidableEq α]:∀{l m:List α},l.Nodup->(∀x∈l,x∈m)->l.length<=m.length
 |[],_,_,_=>bH _
 |a::l,m,nd,s=>by
  have ha:=s a aY;have:=ahn (l:=l) (m:=m.erase a) (cT.mp nd).2 λx hx=>(List.mem_erase_of_ne (λe:x=a=>(cT.mp nd).1 (e ▸ hx))).mpr (s x (aQ _ hx));rw[List.length_erase_of_mem ha]at this;have:0<m.length:=List.length_pos_of_mem ha;rw[aL];omega
structure Nm (x:List Nat):Prop where
 lo:1<=x.length
 hi:x.length<=8
 az:∀c∈x,c∈az
noncomputable def nx(x:List Nat)(a f j:Nat):List Nat:=x.set a (az[(f+j)%26]?.getD 0)
theorem alh(k:Nat):az[k%26]? = some (az[k%26]?.getD 0):=by
 rw[a8 (by rw[a7c];omega)]
 rfl
theorem avz{x:List Nat}{a f i j:Nat}(ha:a<x.length)(hi:i<26)(hj:j<26)(e:nx x a f i=nx x a f j):i=j:=by
 have h:=ah (λl:List Nat=>l[a]?) e;simp only[nx,cb ha,Option.some.injEq]at h;have h1:=alh (f+i);have h2:=alh (f+j);rw[h,<-h2]at h1;have:=(List.getElem?_inj (by rw[a7c];omega) az0).mp h1
 omega
theorem az2{x:List Nat}{a f j:Nat}(n:Nm x):Nm (nx x a f j):=by
 refine⟨by unfold nx;rw[dR];exact n.lo,by unfold nx;rw[dR];exact n.hi,λc hc=>?_⟩
 rcases List.mem_or_eq_of_mem_set hc with h|rfl
 .exact n.az c h
 .exact bB (alh (f+j))
theorem aw0{x:List Nat}{a f j:Nat}(ha:a<x.length)(c:Nat):(nx x a f j).take a++[c]++(nx x a f j).drop (a+1)=x.set a c:=by
 unfold nx;rw[List.take_set_of_le (a9 _),List.drop_set_of_lt (by omega),List.set_eq_take_append_cons_drop,av ha]
 simp
def lw:SF:=jt (a0m SRC.ak) 8
theorem aqb{ns:List (List Nat)}(hn:ns.length<=6)(ok:∀x∈ns,Nm x){o:O}{N:Nat}(P:Src o N)(hN:N<=900000000):∃x o',Dr2 lw 2 [] o (.lst (ns.map nmD)) (nmD x) o' (.lst (ns.map nmD))/\Nm x/\x∉ns/\Src o' (N+11):=by
 obtain⟨r0,o1,e1,r0b,P1⟩:=dw (m:=8) P (by omega) (by decide) (by decide)
 have lett:∀r:Nat,r<26->∀hh:Hd,∃c,c∈az/\gIx (.str (S az)) (bz r) hh=.ok (.str (S [c])) hh:=λr hr hh=>by
  have hl:r<az.length:=by rw[a7c];exact hr
  exact⟨az[r],b9 hl,aku (bx (by rw[a7c];omega)) (a8 hl)⟩
 obtain⟨ys,o2,e2,q,P2,_⟩:=alg (fi:=sRg a02 (aj (s2 dm (sI 1) (sA (gm false 2 SRC.ak) (aj (sV 0) (aj (sI 8) aq)))) aq)) (t:=MI.t1) (fe:=a0u SRC.ak) (ix:=[0,2]) (τ:=[some (.ref 0),some (.ref 1),some (.str (S az)),none,none,none,none,none]) (o0:=o) (hs:=[.lst (ns.map nmD)]) (List.range (1+r0)) bz (λc:Nat=>nmD [c]) (λ_ c=>c∈az) (B:=1) (M:=900000100) P1 (by rw[c8];omega) (by rw[c8];omega) (EVT.m9 (a4p ns)) (by
   have a1:aj (s2 dm (sI 1) (sA (gm false 2 SRC.ak) (aj (sV 0) (aj (sI 8) aq)))) aq [some (.ref 0),some (.ref 1),some (.str (S az)),none,none,none,none,none] [o,.lst (ns.map nmD)]=.ok [bz (1+r0)] [o1,.lst (ns.map nmD)]:=arg1 (jb ckk (lq (bh rfl) ckk (drz e1)) (aeg (a:=1)));unfold sRg;rw[a1,bw];exact acq _ (bx (by omega))) (λi _ u M Pu hM=>by
   obtain⟨r,u',e,rb,Pu'⟩:=dw (m:=26) Pu (by omega) (by decide) (by decide)
   obtain⟨c,hc,gx⟩:=lett r (by omega) [u',.lst (ns.map nmD)]
   refine⟨c,u',?_,cu _,hc,Pu'⟩;rw[v5];exact jb (bh rfl) (lq (bh rfl) ckk (drz e)) gx)
 have ql:=q.len;rw[c8]at ql P2;have jn:adu (.str (S [])) [.rol (ys.map λc:Nat=>nmD [c])] [o2,.lst (ns.map nmD)]=.ok (nmD ys) [o2,.lst (ns.map nmD)]:=by
  have j:=K76.avy (ls:=ys.map λc=>[c]) (h:=[o2,.lst (ns.map nmD)]) (by rw[ENG.aa0];omega)
  rw[cQ,ENG.aa0]at j;exact j
 have Y:Nm ys:=⟨by omega,by omega,λc hc=>by obtain⟨_,_,h⟩:=q.rt c hc;exact h⟩
 obtain⟨x0,o3,X,P3,e3⟩:∃x0 o3,Nm x0/\Src o3 (N+10)/\∀g:SS,gh (sIf (yp (sT (s2 (aa5 true) (sV 1) (sZ (sA MI.ye aq)))) (sT (s2 hEq (sA (gm false 2 SRC.ak) (aj (sV 0) (aj (sI 2) aq))) (sI 0)))) (j5 3 (s2 gIx (sV 1) (s1 ai8 (sI 1)))) sNx) g [some (.ref 0),some (.ref 1),some (.str (S az)),some (nmD ys),none,none,none,none] [o2,.lst (ns.map nmD)]=g [some (.ref 0),some (.ref 1),some (.str (S az)),some (nmD x0),none,none,none,none] [o3,.lst (ns.map nmD)]:=by
  have z0:sZ (sA MI.ye aq) [some (.ref 0),some (.ref 1),some (.str (S az)),some (nmD ys),none,none,none,none] [o2,.lst (ns.map nmD)]=.ok (.rol []) [o2,.lst (ns.map nmD)]:=zds nlo rfl dz (ahj P2.clo (a4p ns)) (by simp)
  have c1:sT (s2 (aa5 true) (sV 1) (sZ (sA MI.ye aq))) [some (.ref 0),some (.ref 1),some (.str (S az)),some (nmD ys),none,none,none,none] [o2,.lst (ns.map nmD)]=.ok (!ns.isEmpty) [o2,.lst (ns.map nmD)]:=t2s (bh rfl) z0 (aq9 rfl)
  by_cases em:ns.isEmpty=true
  .rw[em]at c1;exact⟨ys,o2,Y,P2.up (by omega),λg=>ifN (a6p c1)⟩
  .have em:ns.isEmpty=false:=by simpa using em
   rw[em]at c1;obtain⟨b,o3,e,_,P3⟩:=dw (m:=2) P2 (by omega) (by decide) (by decide)
   have d1:sA (gm false 2 SRC.ak) (aj (sV 0) (aj (sI 2) aq)) [some (.ref 0),some (.ref 1),some (.str (S az)),some (nmD ys),none,none,none,none] [o2,.lst (ns.map nmD)]=.ok (bz b) [o3,.lst (ns.map nmD)]:=lq (bh rfl) ckk (drz e)
   by_cases b0:b=0
   .have nl:ns.length-1<ns.length:=by
     have:0<ns.length:=by cases ns with|nil=>simp at em|cons=>simp
     omega
    have gl:gIx (.ref 1) (.int (-1)) [o3,.lst (ns.map nmD)]=.ok (nmD ns[ns.length-1]) [o3,.lst (ns.map nmD)]:=aqa (xs:=ns.map nmD) rfl (by rw[aJ,bT,a8 nl];rfl)
    refine⟨ns[ns.length-1],o3,ok _ (b9 nl),P3.up (by omega),λg=>rm (ai (ifT (h1:=[o3,.lst (ns.map nmD)]) (a4a c1 (t2s d1 ckk (xu (by omega))))) (av5 (jb (bh rfl) (ae5 ckk (a5b _)) gl)))⟩
   .exact⟨ys,o3,Y,P3.up (by omega),λg=>ifN (h1:=[o3,.lst (ns.map nmD)]) (a4a c1 (t2s d1 ckk (wk (by omega))))⟩
 obtain⟨a,o4,e4,ab,P4⟩:=dw (m:=(x0.length:Int)) P3 (by omega) (by have:=X.lo;omega) (by have:=X.hi;omega)
 have ha:a<x0.length:=by omega
 obtain⟨f,hf,fa,fx⟩:=az1 (X.az _ (b9 ha)) [o4,.lst (ns.map nmD)];have start:nx x0 a f 0=x0:=by
  unfold nx;have:az[(f+0)%26]? = some x0[a]:=by rw[Nat.add_zero,Nat.mod_eq_of_lt hf];exact fa
  rw[this];exact List.set_getElem_self ha
 have X8:=X.hi
 rcases ayc (c:=yt SRC.ak) (f:=a0v SRC.ak)
  (λm τ h=>∃(j:Nat) (t7:Option D),τ=[some (.ref 0),some (.ref 1),some (.str (S az)),some (nmD (nx x0 a f j)),some (bz a),some (bz f),some (bz j),t7]/\h=[o4,.lst (ns.map nmD)]/\m=26-j/\j<=6/\∀i<j,nx x0 a f i∈ns)
  (λτ h=>∃(j:Nat) (t7:Option D),τ=[some (.ref 0),some (.ref 1),some (.str (S az)),some (nmD (nx x0 a f j)),some (bz a),some (bz f),some (bz j),t7]/\h=[o4,.lst (ns.map nmD)]/\nx x0 a f j∉ns) (λ_ _=>False)
  (by
   rintro m τ h ⟨j,t7,rfl,rfl,rfl,j6,all⟩
   have c:yt SRC.ak [some (.ref 0),some (.ref 1),some (.str (S az)),some (nmD (nx x0 a f j)),some (bz a),some (bz f),some (bz j),t7] [o4,.lst (ns.map nmD)]=.ok (decide (nx x0 a f j∈ns)) [o4,.lst (ns.map nmD)]:=t2s (bh rfl) (bh rfl) (ane rfl)
   by_cases q:nx x0 a f j∈ns
   .right
    rw[ay q]at c;refine⟨_,c,.inl ?_⟩;have few:j+1<=6:=by
     have:=ahn (l:=(List.range (j+1)).map (nx x0 a f)) (m:=ns) (by
      rw[List.nodup_iff_pairwise_ne,List.pairwise_map];refine List.Pairwise.imp_of_mem ?_ (List.nodup_range (n:=j+1))
      intro u v hu hv ne e
      exact ne (avz ha (by have:=cB.mp hu;omega) (by have:=cB.mp hv;omega) e)) (λy hy=>by
      obtain⟨i,hi,rfl⟩:=bD.mp hy;have:=cB.mp hi
      by_cases z:i=j
      .subst z;exact q
      .exact all i (by omega))
     rw[aJ,c8]at this;omega
    have l1:(nx x0 a f j).length=x0.length:=by unfold nx;rw[dR]
    have md:a3z (bz (f+(j+1))) (.int 26) [o4,.lst (ns.map nmD)]=.ok (bz ((f+(j+1))%26)) [o4,.lst (ns.map nmD)]:=(a68 (by decide)).trans (by show R.ok (D.int (((f+(j+1):Nat):Int)%((26:Nat):Int))) _=_;rw[<-Int.natCast_emod])
    have gx:gIx (.str (S az)) (bz ((f+(j+1))%26)) [o4,.lst (ns.map nmD)]=.ok (.str (S [az[(f+(j+1))%26]?.getD 0])) [o4,.lst (ns.map nmD)]:=aku (bx (by rw[a7c];omega)) (alh _)
    have cut:s2 dm (s2 dm (vm (sV 3) oN (oS (sV 4))) (sV 7)) (vm (sV 3) (oS (s2 dm (sV 4) (sI 1))) oN) [some (.ref 0),some (.ref 1),some (.str (S az)),some (nmD (nx x0 a f j)),some (bz a),some (bz f),some (bz (j+1)),some (.str (S [az[(f+(j+1))%26]?.getD 0]))] [o4,.lst (ns.map nmD)]=.ok (nmD (nx x0 a f (j+1))) [o4,.lst (ns.map nmD)]:=by
     refine ai (jb (jb (a3d (bh rfl) onn (a3c (bh rfl)) (akv a (bx (by omega)))) (bh rfl) (a2v (bx (by simp only[aR,aE];omega)))) (a3d (bh rfl) (a3c (nj rfl (aeg (b:=1)))) onn (a74 (a+1) (bx (by omega)))) (a2v (bx (by simp only[ae,aR,b6,aE];omega)))) ?_
     rw[aw0 ha];rfl
    refine⟨_,_,26-(j+1),ai (rm (ae6 rfl ckk rfl)) (ai (j9 (jb (bh rfl) (jb (jb (bh rfl) (bh rfl) (aeg (b:=j+1))) ckk md) gx)) (av5 cut)),by omega,j+1,_,rfl,rfl,rfl,few,λi hi=>?_⟩
    by_cases z:i=j
    .subst z;exact q
    .exact all i (by omega)
   .left
    rw[ar q]at c;exact⟨_,c,j,t7,rfl,rfl,q⟩)
  26 100000 [some (.ref 0),some (.ref 1),some (.str (S az)),some (nmD (nx x0 a f 0)),some (bz a),some (bz f),some (bz 0),none] [o4,.lst (ns.map nmD)] (by omega) ⟨0,none,rfl,rfl,rfl,by omega,λi hi=>absurd hi (by omega)⟩ with⟨τ',h',ew,j,t7,rfl,rfl,nin⟩|⟨_,_,_,z⟩
 .refine⟨nx x0 a f j,o4,Dr2.of rfl (by simp) P.clo (a4p ns) ?_ (b01 (h:=[]) (cu _) P4.clo (a4p ns)) (cu _) P4.clo (a4p ns),az2 X,nin,P4⟩
  unfold lw;rw[du];show toR (a0m SRC.ak [some (.ref 0),some (.ref 1),none,none,none,none,none,none] [o,.lst (ns.map nmD)])=_;unfold a0m;rw[b03];refine etr (j9 ckk) ?_;refine ets (K76.b00 (z:=S []) ckk (arg1 e2) jn) ?_;refine etr (e3 _) ?_;refine ets (lq (bh rfl) (jo (bh rfl) (a4z (bx (by omega)))) (drz e4)) ?_
  refine ets (K76.b00 (bh rfl) (arg1 (jb (bh rfl) (bh rfl) (aku (bx (by omega)) (a8 ha)))) fx) ?_
  refine etr (j9 ckk) ?_;rw[start]at ew;refine etr (rm ew) ?_;exact ah toR (fu (bh rfl))
 .exact z.elim
abbrev Rule:=List Nat×Sh
abbrev rlD(r:Rule):D:=.tup [nmD r.1,sd r.2]
abbrev bkD(tg:List Nat)(rs:List Rule):D:=.tup [.str (S tg),.tup (rs.map rlD)]
theorem anf(r:Rule):MI.clo 0 (rlD r):=jc (bj (cu _) (bj (a2n _) dz))
theorem ang(tg:List Nat)(rs:List Rule):MI.clo 0 (bkD tg rs):=jc (bj (cu _) (bj (jc (g8 λr _=>anf r)) dz))
noncomputable def rw8(rs:List Rule):Nat:=wts (rs.map Prod.snd)
structure Bk (tg:List Nat) (p:Nat) (rs:List Rule):Prop where
 few:rs.length<=6
 nm:∀r∈rs,Nm r.1
 sh:∀r∈rs,a1d tg 5 r.2
 nd:∀r∈rs,Nd r.2
 un:(rs.map Prod.fst).Nodup
 wt:rw8 rs<=p
theorem b21(r:Nat)(h:r<8)(h':Hd):∃m:Nat,m<=6/\gIx (.tup [.int 0,.int 1,.int 1,.int 2,.int 2,.int 3,.int 4,.int 6]) (bz r) h'=.ok (bz m) h':=by
 rcases r with _|_|_|_|_|_|_|_|r
 .exact⟨0,by decide,rfl⟩
 .exact⟨1,by decide,rfl⟩
 .exact⟨1,by decide,rfl⟩
 .exact⟨2,by decide,rfl⟩
 .exact⟨2,by decide,rfl⟩
 .exact⟨3,by decide,rfl⟩
 .exact⟨4,by decide,rfl⟩
 .exact⟨6,by decide,rfl⟩
 .omega
theorem anh{tg:List Nat}{s:Sh}:∀{d e:Nat},d<=e->a1d tg d s->a1d tg e s
 |d,0,h,k=>by cases Nat.le_zero.mp h;exact k
 |d,e+1,h,k=>by
  by_cases q:d=e+1
  .subst q;exact k
  .exact ahi (anh (d:=d) (e:=e) (by omega) k)
theorem b22{u u' A B p q:O}{gs:Hd}:((u::A::B::(gs++[p])).set 0 u').set (gs.length+3) q=u'::A::B::(gs++[q]):=by simp
def ww:SF:=jt (a0n SRC.ak lw (gf 5) (bc 5)) 9
theorem aqc{tg:List Nat}(t1:1<=tg.length)(t6:tg.length<=6)(nd:tg.Nodup){p:Nat}(hp:p<=1000){o:O}{N:Nat}(P:Src o N)(hN:N<=100000000):∃rs o',Dr ww 3 [.str (S tg),bz p] o (bkD tg rs) o'/\Bk tg p rs/\Src o' (N+30000000):=by
 obtain⟨r,o1,e1,rb,P1⟩:=dw (m:=8) P (by omega) (by decide) (by decide)
 obtain⟨k,k6,hk⟩:=b21 r (by omega) [o1,.lst [],.lst []]
 have b5:bnd 5=3361400:=by decide
 obtain⟨τ',h',e2,rs,u,gs,t5,t6',t7,t8,rfl,rfl,P2,ln,nm,sh,nds,un,wt,cg⟩:=a3s (g:=kN 5) (b:=uz SRC.ak lw (gf 5) (bc 5)) bz
  (λpre τ h=>∃(rs:List Rule) (u:O) (gs:Hd) (t5 t6 t7 t8:Option D),τ=[some (.ref 0),some (.str (S tg)),some (bz (p-rw8 rs)),some (.ref 1),some (.ref 2),t5,t6,t7,t8]/\h=u::.lst ((rs.map Prod.fst).map nmD)::.lst (rs.map rlD)::gs/\Src u (N+1+pre.length*4000000)/\rs.length=pre.length/\(∀r∈rs,Nm r.1)/\(∀r∈rs,a1d tg 5 r.2)/\(∀r∈rs,Nd r.2)/\(rs.map Prod.fst).Nodup/\rw8 rs<=p/\∀v∈gs,yc 0 v)
  (List.range k) [some (.ref 0),some (.str (S tg)),some (bz p),some (.ref 1),some (.ref 2),none,none,none,none] [o1,.lst [],.lst []] (by
   rintro pre i post τ h al ⟨rs,u,gs,t5,t6',t7,t8,rfl,rfl,P2,ln,nm,sh,nds,un,wt,cg⟩
   have hl:pre.length<k:=by
    have:=ah List.length al
    simp at this;omega
   have kb:pre.length*4000000<=5*4000000:=bK _ (by omega)
   obtain⟨d,u1,ed,db,P3⟩:=dw (m:=4) P2 (by omega) (by decide) (by decide)
   have bd:=anc (d:=d+2) (e:=5) (by omega)
   rw[b5]at bd;obtain⟨s,u2,ks,ws,ns,es,P4⟩:=ad5 t1 t6 nd (d+1) 4 (by omega) (by omega) u1 _ (p-rw8 rs) 24 P3 (by rw[show d+1+1=d+2 from rfl];omega) (by omega)
   obtain⟨x,u3,ex,X,nin,P5⟩:=aqb (ns:=rs.map Prod.fst) (by rw[aJ];omega) (λy hy=>by obtain⟨q,hq,rfl⟩:=bD.mp hy;exact nm q hq) P4 (by rw[show d+1+1=d+2 from rfl];omega)
   have ks5:a1d tg 5 s:=anh (by omega) ks
   have c1:=a3x (tg:=tg) 5 5 (by omega) s ks5
   have wa:rw8 (rs++[(x,s)])=rw8 rs+DRW.wt s:=by unfold rw8;rw[cJ];exact a87 _ _
   let A:O:=.lst ((rs.map Prod.fst).map nmD)
   let B:O:=.lst (rs.map rlD)
   have nl:MI.ye [.int 24] (u1::A::B::gs)=.ok (.ref (gs.length+3)) (u1::A::B::(gs++[.lst [.int 24]])):=av (bx (by simp))
   have ea:=es 0 (gs.length+3) (u1::A::B::(gs++[.lst [.int 24]])) (by omega) rfl (by simp)
   rw[b22]at ea;have en:gm false 2 lw [.ref 0,.ref 1] (u2::A::B::(gs++[.lst [.int (24-pn s)]]))=.ok (nmD x) (u3::A::B::(gs++[.lst [.int (24-pn s)]])):=ex 0 1 _ (by decide) rfl rfl
   have a2:dm (.int 2) (bz d) (u1::A::B::gs)=.ok (bz (d+1+1)) (u1::A::B::gs):=(aeg (a:=2)).trans (by rw[show 2+d=d+1+1 by omega])
   have sb:MI.a3h (bz (p-rw8 rs)) (bz (DRW.wt s)) (u3::A::B::(gs++[.lst [.int (24-pn s)]]))=.ok (bz (p-rw8 (rs++[(x,s)]))) (u3::A::B::(gs++[.lst [.int (24-pn s)]])):=by
    rw[ym,wa,show((p-rw8 rs:Nat):Int)-(DRW.wt s:Nat)=((p-(rw8 rs+DRW.wt s):Nat):Int) by omega]
   refine⟨_,_,rfl,?_⟩;show ∃τ2 h2,uz SRC.ak lw (gf 5) (bc 5) [some (.ref 0),some (.str (S tg)),some (bz (p-rw8 rs)),some (.ref 1),some (.ref 2),some (bz i),t6',t7,t8] (u::A::B::gs)=.nx τ2 h2/\_;unfold uz;refine⟨_,_,ai (j9 (jb ckk (lq (bh rfl) ckk (drz ed)) a2)) (ai (j9 (aoo (cns (bh rfl) (cns (bh rfl) (cns (bh rfl) (cns (bh rfl) (cns (aoo (arg1 ckk) nl) nlo))))) ea)) (ai (j9 (lq (bh rfl) (bh rfl) en)) (ai (rm (ae6 rfl (jo (bh rfl) (c1 _)) sb)) (ai (rm (a9n (bh rfl) rfl (arg1 (bh rfl)) (acr (i:=1) rfl (acw (by simp;omega))))) (a9n (bh rfl) rfl (arg1 (lq (bh rfl) (bh rfl) a05)) (acr (i:=2) rfl (acw (by simp;omega)))))))),rs++[(x,s)],u3,gs++[.lst [.int (24-pn s)]],some (bz i),some (bz (d+1+1)),some (sd s),some (nmD x),rfl,?_,?_,?_,?_,?_,?_,?_,?_,?_⟩
   .rw[cJ,cJ,cJ];rfl
   .rw[ae,aE];exact P5.up (by rw[show d+1+1=d+2 from rfl];omega)
   .rw[ae,ae,ln];rfl
   .intro q hq
    rcases bb.mp hq with hq|hq
    .exact nm q hq
    .rw[aK.mp hq];exact X
   .intro q hq
    rcases bb.mp hq with hq|hq
    .exact sh q hq
    .rw[aK.mp hq];exact ks5
   .intro q hq
    rcases bb.mp hq with hq|hq
    .exact nds q hq
    .rw[aK.mp hq];exact ns
   .rw[cJ,bA];refine⟨un,by simp,λy hy z hz e=>?_⟩
    rw[List.map_singleton,aK]at hz;subst hz e;exact nin hy
   .rw[wa];omega
   .intro v hv
    rcases bb.mp hv with hv|hv
    .exact cg v hv
    .rw[aK.mp hv];exact a85 _) ⟨[],o1,[],none,none,none,none,by rw[show rw8 []=0 by unfold rw8;rw[cY,wts]];rfl,rfl,by simpa using P1,rfl,by simp,by simp,by simp,by simp,by unfold rw8;rw[cY,wts];omega,by simp⟩
 rw[c8]at P2 ln;have kb:k*4000000<=6*4000000:=bK _ k6;refine⟨rs,u,Dr.of rfl (λy hy=>by simp only[aZ,cE,ff]at hy;rcases hy with rfl|rfl;exact cu _;exact dh _) P.clo (r:=.ok (bkD tg rs) (u::.lst ((rs.map Prod.fst).map nmD)::.lst (rs.map rlD)::gs)) ?_ (km (a5z (by omega) (ang tg rs)) (by simpa using a0d (by omega) P2.clo)) (ang tg rs) P2.clo,⟨by omega,nm,sh,nds,un,wt⟩,P2.up (by omega)⟩
 unfold ww;rw[du];show toR (a0n SRC.ak lw (gf 5) (bc 5) [some (.ref 0),some (.str (S tg)),some (bz p),none,none,none,none,none,none] [o])=_;unfold a0n;have n1:MI.ye [] [o]=.ok (.ref 1) [o,.lst []]:=av (bx (by simp))
 have n2:MI.ye [] [o,.lst []]=.ok (.ref 2) [o,.lst [],.lst []]:=av (bx (by simp))
 refine ets (aoo nlo n1) ?_;refine ets (aoo nlo n2) ?_;have t8:MI.dj [.int 0,.int 1,.int 1,.int 2,.int 2,.int 3,.int 4,.int 6] [o,.lst [],.lst []]=.ok (.tup [.int 0,.int 1,.int 1,.int 2,.int 2,.int 3,.int 4,.int 6]) [o,.lst [],.lst []]:=by unfold MI.dj;rw[av (bx (by simp))]
 have it:sRg a02 (aj (s2 gIx (sA MI.dj (aj (sI 0) (aj (sI 1) (aj (sI 1) (aj (sI 2) (aj (sI 2) (aj (sI 3) (aj (sI 4) (aj (sI 6) aq))))))))) (sA (gm false 2 SRC.ak) (aj (sV 0) (aj (sI 8) aq)))) aq) [some (.ref 0),some (.str (S tg)),some (bz p),some (.ref 1),some (.ref 2),none,none,none,none] [o,.lst [],.lst []]=.ok ⟨(List.range k).map bz,λ_=>True⟩ [o1,.lst [],.lst []]:=by
  unfold sRg;rw[arg1 (jb (aoo (cns ckk (cns ckk (cns ckk (cns ckk (cns ckk (cns ckk (cns ckk (cns ckk nlo)))))))) t8) (lq (bh rfl) ckk (drz e1)) hk),bw];exact acq _ (bx (by omega))
 refine etr (a9o it) ?_;refine ai (ah (λz=>toR (MI.thn z _)) e2) ?_;rw[a1l];exact ah toR (fu (lq (bh rfl) (jo (bh rfl) (agx (xs:=rs.map rlD) rfl)) a05))
theorem aho(x:Nat):∀l:List Nat,inD (bz x) (l.map bz)=decide (x∈l)
 |[]=>by simp[inD]
 |y::l=>by
  show(eqF (bz y) (bz x) || inD (bz x) (l.map bz))=_
  rw[aho x l];show(((y:Int) == (x:Int)) || decide (x∈l))=_
  by_cases h:y=x
  .subst h;simp
  .have:((y:Int) == (x:Int))=false:=bQ.mpr (by omega)
   rw[this,fg];exact cG.mpr (by simp[eD h])
theorem ali(l:List Nat):(l.map bz).all a03=true:=by
 rw[aM]
 intro x hx
 obtain⟨y,_,rfl⟩:=bD.mp hx;rfl
theorem aw1(x:Nat)(l:List Nat)(h:Hd):gIn false (bz x) (lsD l) h=.ok (.bl (decide (x∈l))) h:=by
 show(if a03 (bz x)=true/\(l.map bz).all a03=true then R.ok (D.bl (if false=true then !inD (bz x) (l.map bz) else inD (bz x) (l.map bz))) h else .no)=_
 rw[av ⟨rfl,ali l⟩,aO (by decide),aho]
open Classical in
mutual
theorem aa1{tg:List Nat}:∀{d:Nat} {s:Sh},a1d tg d s->pur (2*d) (sd s)=true
 |0,_,k=>k.elim
 |d+1,.one sg,_=>by rw[sd,show 2*(d+1)=2*d+1+1 by omega];rfl
 |d+1,.row ps,k=>by
  rw[sd,show 2*(d+1)=2*d+1+1 by omega]
  show((true && ((sds ps).all (pur (2*d)) && true))=true);rw[a88 k.2];rfl
 |d+1,.eit ps,k=>by
  rw[sd,show 2*(d+1)=2*d+1+1 by omega]
  show((true && ((sds ps).all (pur (2*d)) && true))=true);rw[a88 k.2.2];rfl
 |d+1,.many p,k=>by
  rw[sd,show 2*(d+1)=2*d+1+1 by omega]
  show((true && (pur (2*d+1) (sd p) && true))=true);rw[a98 (by omega) (aa1 (d:=d) (s:=p) k)];rfl
 |d+1,.tim p lo hi,k=>by
  rw[sd,show 2*(d+1)=2*d+1+1 by omega]
  show((true && (pur (2*d+1) (sd p) && (pur (2*d+1) (bz lo) && (pur (2*d+1) (bz hi) && true))))=true);rw[a98 (by omega) (aa1 (d:=d) (s:=p) k.2.2)];rfl
theorem a88{tg:List Nat}:∀{d:Nat} {ps:List Sh},(∀p∈ps,a1d tg d p)->(sds ps).all (pur (2*d))=true
 |_,[],_=>by rw[sds];rfl
 |d,p::ps,k=>by
  rw[sds,bC,aa1 (k p aY),a88 λq hq=>k q (aQ _ hq)];rfl
end
theorem aw2{tg:List Nat}{rs:List Rule}(sh:∀r∈rs,a1d tg 5 r.2):(rs.map rlD).all (pur 59)=true:=by
 rw[aM]
 intro x hx
 obtain⟨r,hr,rfl⟩:=bD.mp hx;show((true && (pur 58 (sd r.2) && true))=true);rw[a98 (by omega) (aa1 (sh r hr))]
 rfl
end DRW
namespace K16
open L2 MI AT HND EVX
open SHD
open K20 (a4m vo a2k isInt isStr Deep)
noncomputable def nP:Nat->D->Nat
 |0,_=>0
 |d+1,t=>1+((inT t).map (nP d)).sum
noncomputable def shB:Nat->D->Bool
 |0,_=>false
 |d+1,t=>jl t && (inT t).all (shB d)
theorem ad6:∀{d:Nat} {t:D},shB d t=true->nP d t≠0
 |0,t,h=>by cases h
 |d+1,t,_=>by rw[nP];omega
theorem ani{f:Nat->D->Nat}{N:D->Nat}{P:D->Bool}{m:Nat}(h:∀n x,f n x=if P x=true/\N x<=n then N x else 0)(hN:∀x,P x=true->N x≠0) :
  ∀(xs:List D) (c:Nat),c<=m->c≠0->pcl f m xs c=if xs.all P=true/\c+(xs.map N).sum<=m then c+(xs.map N).sum else 0
 |[],c,hc,_=>by rw[pcl,av ⟨rfl,by simpa using hc⟩];simp
 |x::xs,c,hc,c0=>by
  have e1:((x::xs).all P=true/\c+(N x+(xs.map N).sum)<=m)↔((P x=true/\xs.all P=true)/\c+(N x+(xs.map N).sum)<=m):=by rw[bC,af]
  simp only[pcl,h,bg,eL]
  by_cases q:P x=true/\N x<=m-c
  .rw[av q,aO (hN x q.1),ani h hN xs _ (by omega) (by omega)]
   by_cases r:xs.all P=true/\c+N x+(xs.map N).sum<=m
   .rw[av r,av (e1.mpr ⟨⟨q.1,r.1⟩,by have:=r.2;omega⟩)];omega
   .rw[aO r,aO];exact λz=>r ⟨(e1.mp z).1.2,by have:=z.2;omega⟩
  .rw[aO q,av rfl,aO];exact λz=>q ⟨(e1.mp z).1.1,by have:=z.2;omega⟩
theorem aw3:∀(d m:Nat) (t:D),pc d m t=if shB d t=true/\nP d t<=m then nP d t else 0
 |0,m,t=>by rw[pc,aO (by simp[shB])]
 |d+1,m,t=>by
  rw[pc,shB,nP]
  cases hf:jl t with
  |false=>rw[av (.inr rfl),aO (by simp)]
  |true =>
   rw[bM]
   by_cases m0:m=0
   .rw[av (.inl m0),aO (by omega)]
   .rw[aO (by simp[m0]),ani (aw3 d) (λx=>ad6) _ 1 (by omega) (by omega)]
theorem aw4(t:D):aid t=(shB 5 t && decide (nP 5 t<=24)):=by
 unfold aid;rw[aw3]
 cases h:shB 5 t with
 |false=>rw[aO (by simp)];rfl
 |true =>
  have:=ad6 h
  by_cases l:nP 5 t<=24
  .rw[av ⟨rfl,l⟩,ay l,bM,ay (by omega)]
  .rw[aO λz=>l z.2,ar l];rfl
noncomputable def okP(tg:List Nat)(t:D):Bool:=match onS t with|some l=>a79 tg l|none=>true
noncomputable def ct(tg:List Nat):Nat->D->Nat
 |0,_=>0
 |d+1,t=>if (jl t && okP tg t)=true then (if 0∈(inT t).map (ct tg d) then 0 else 1+((inT t).map (ct tg d)).sum) else 0
noncomputable def skB(tg:List Nat):Nat->D->Bool
 |0,_=>false
 |d+1,t=>(jl t && okP tg t) && (inT t).all (skB tg d)
theorem aqd{tg:List Nat}:∀(d:Nat) (t:D),skB tg d t=(shB d t && (po d t).all (okP tg))
 |0,t=>rfl
 |d+1,t=>by
  rw[skB,shB,po,bC,List.all_flatten,dU,cU];simp only[af,aM,Function.comp,aqd d]
  constructor
  .rintro⟨⟨a,b⟩,c⟩;exact⟨⟨a,λx hx=>(c x hx).1⟩,b,λx hx=>(c x hx).2⟩
  .rintro⟨⟨a,c⟩,b,e⟩;exact⟨⟨a,b⟩,λx hx=>⟨c x hx,e x hx⟩⟩
theorem alj{tg:List Nat}:∀(d:Nat) (t:D),ct tg d t=if skB tg d t=true then nP d t else 0
 |0,t=>by rw[ct,skB,aO (by simp)]
 |d+1,t=>by
  rw[ct,skB,nP]
  cases hf:jl t && okP tg t with
  |false=>rw[aO (by simp),aO (by simp)]
  |true =>
   rw[av rfl,bM]
   by_cases al:(inT t).all (skB tg d)=true
   .have e:(inT t).map (ct tg d)=(inT t).map (nP d):=List.map_congr_left λx hx=>by rw[alj d x,av (aM.mp al x hx)]
    rw[e,av al,aO]
    intro z
    obtain⟨x,hx,q⟩:=bD.mp z;have k:=aM.mp al x hx;rw[aqd,af]at k;exact ad6 k.1 q
   .rw[aO al,av];rw[aM]at al;obtain⟨x,q⟩:=Classical.not_forall.mp al;obtain⟨hx,q⟩:=Classical.not_imp.mp q;exact bD.mpr ⟨x,hx,by rw[alj d x,aO q]⟩
theorem ahp{tg:List Nat}:∀l:List D,(l.filterMap onS).all (a79 tg)=l.all (okP tg)
 |[]=>rfl
 |x::l=>by
  rw[bN,bC];unfold okP
  cases onS x with
  |none=>exact(ahp l).trans (bM _).symm
  |some y=>show(_ && _)=_;rw[ahp l];rfl
theorem ahq(tg:List Nat)(s:D):(aid s && ((po 5 s).filterMap onS).all (a79 tg))=decide (1<=ct tg 5 s/\ct tg 5 s<=24):=by
 rw[ahp,aw4,alj,aqd]
 cases h:shB 5 s with
 |false=>rw[dI,dI,aO (by simp),ar (by omega)]
 |true =>
  have:=ad6 h
  cases (po 5 s).all (okP tg) with
  |false=>rw[cP,cP,aO (by simp),ar (by omega)]
  |true=>rw[bM,cF,cF,av rfl];exact cG.mpr (by omega)
theorem ahr{tg:List Nat}{d:Nat}(ih:∀x,skB tg d x=true->∃s,x=sd s/\a1d tg d s):∀ps:List D,ps.all (skB tg d)=true->∃ss,ps=sds ss/\∀s∈ss,a1d tg d s
 |[],_=>⟨[],by rw[sds],by simp⟩
 |p::ps,h=>by
  rw[bC,af]at h;obtain⟨s,rfl,k⟩:=ih p h.1;obtain⟨ss,rfl,ks⟩:=ahr ih ps h.2;exact⟨s::ss,by rw[sds],λq hq=>by rcases aZ.mp hq with rfl|hq;exact k;exact ks q hq⟩
theorem a6g:∀ss:List Sh,(sds ss).length=ss.length:=λss=>by rw[a0e,aJ]
theorem aw5{tg:List Nat}:∀(d:Nat) (t:D),skB tg d t=true->∃s,t=sd s/\a1d tg d s
 |0,t,h=>by cases h
 |d+1,t,h=>by
  rw[skB,af,af]at h;obtain⟨⟨hf,ho⟩,al⟩:=h;have ih:=aw5 (tg:=tg) d;unfold jl at hf
  split at hf
  .rename_i x y;have no:∀z:Str,(x == z)=true->x=z:=λz q=>by simpa using q
   rw[a0a]at al
   by_cases h1:(x == "one")=true
   .rw[av h1]at hf
    cases y<;>first|(simp[a2k]at hf;done)|skip
    rename_i z;obtain rfl:=no _ h1;unfold a2k K20.aa6 at hf;simp only[af,aW]at hf;refine⟨.one z.cps.toList,by rw[sd,a1b],hf.1.1,hf.1.2,?_⟩
    have ho':a79 tg z.cps.toList=true:=ho;exact λc hc=>bL (aM.mp ho' c hc)
   rw[aO h1]at hf al
   by_cases h2:(x == "row")=true
   .rw[av h2]at hf;rw[h2,Bool.true_or,av rfl]at al
    cases y<;>first|(simp[vo]at hf;done)|skip
    rename_i ps;obtain⟨ss,rfl,ks⟩:=ahr ih ps al;obtain rfl:=no _ h2;have l:=bL hf;rw[a6g]at l;exact⟨.row ss,by rw[sd],by omega,ks⟩
   rw[aO h2]at hf
   by_cases h3:(x == "either")=true
   .rw[av h3]at hf;rw[h3,Bool.or_true,av rfl]at al
    cases y<;>first|(simp[vo]at hf;done)|skip
    rename_i ps;obtain⟨ss,rfl,ks⟩:=ahr ih ps al;obtain rfl:=no _ h3;have l:=bL hf;rw[a6g]at l;exact⟨.eit ss,by rw[sd],by omega,by omega,ks⟩
   rw[aO h3]at hf;rw[aO (by simp[h2,h3]),bC,cZ,cF]at al
   obtain⟨s,rfl,k⟩:=ih y al;obtain rfl:=no _ hf;exact⟨.many s,by rw[sd],k⟩
  .rename_i x y a b;have no:∀z:Str,(x == z)=true->x=z:=λz q=>by simpa using q
   simp only[af,e8]at hf;obtain⟨h1,h2,h3,h4,h5,h6⟩:=hf;rw[a0a,aO (by simp[h1]),aO (by simp[h2,h3]),bC,cZ,cF]at al
   obtain⟨s,rfl,k⟩:=ih y al;obtain rfl:=no _ h5;unfold al6 at h6;rw[af]at h6;obtain⟨j,rfl,j0,j1⟩:=K20.aq3 h6.1;obtain⟨i,rfl,i0,i1⟩:=K20.aq3 (lo:=0) (hi:=j) h6.2;refine⟨.tim s i.toNat j.toNat,?_,by omega,by omega,k⟩
   rw[sd,show bz i.toNat=.int i from ah D.int (by omega),show bz j.toNat=.int j from ah D.int (by omega)]
  .cases hf
end K16
namespace K16
open L2 MI AT HND EVX
open K20 (a4m vo a2k isInt a4b isStr Deep)
theorem aw6{f g:ST}{τ:Sd}{h:Hd}{a b:Bool}(e1:f τ h=.ok a h)(e2:a=true->g τ h=.ok b h):yp f g τ h=.ok (a && b) h:=by
 cases a with
 |false=>exact a6p e1
 |true=>exact a4a e1 (e2 rfl)
theorem orB{f g:ST}{τ:Sd}{h:Hd}{a b:Bool}(e1:f τ h=.ok a h)(e2:a=false->g τ h=.ok b h):sOr f g τ h=.ok (a || b) h:=by
 cases a with
 |false=>exact orF e1 (e2 rfl)
 |true=>exact orT e1
theorem b23{d:D}(p:PAP.Pln d){τ:Sd}{h:Hd}{i:Nat}(v:τ[i]? = some (some d)):a0b (sA m5 (aj (sV i) (aj (sC (.ty "int")) aq))) τ h=.ok (isInt d || a4b d) h:=iy (lq (bh v) ckk (K20.avk p)) (fj _)
theorem b26{d:D}(p:PAP.Pln d){τ:Sd}{h:Hd}{i:Nat}(v:τ[i]? = some (some d)):a0b (sA m5 (aj (sV i) (aj (sC (.ty "bool")) aq))) τ h=.ok (a4b d) h:=iy (lq (bh v) ckk (K20.avl p)) (fj _)
def m8:SF:=jt a1w 2
theorem aqe{a b:D}(pa:PAP.Pln a)(pb:PAP.Pln b):Pu m8 1 [.tup [a,b]] (.bl (isInt a && isInt b)):=by
 have ca:MI.clo 0 (.tup [a,b]):=jc (bj pa.clo (bj pb.clo dz));refine K20.a1y rfl (K20.ar1 ca) (h':=[]) ?_;unfold m8;rw[du];show toR (a1w [some (.tup [a,b]),none] [])=_;unfold a1w;refine eti (um (iy (lq (bh rfl) ckk (PAP.ab7 ca)) (fj _))) ?_;refine etr (a9o (a75 (bh rfl) (ah6 _ _))) ?_;have cond:∀(x:D) (h:Hd),PAP.Pln x->sOr (a0g (a0b (sA m5 (aj (sV 1) (aj (sC (.ty "int")) aq))))) (a0b (sA m5 (aj (sV 1) (aj (sC (.ty "bool")) aq)))) [some (.tup [a,b]),some x] h=.ok (!isInt x) h:=λx h p=>by
  have:=orB (a := !(isInt x || a4b x)) (K20.an2 (b23 p (i:=1) (τ:=[some (.tup [a,b]),some x]) (h:=h) rfl)) (λ_=>b26 p (i:=1) rfl)
  rw[this]
  congr 1
  cases x<;>rfl
 have lp:=a3r (g:=kN 1) (b:=xx) (λx:D=>x)
  (λpre τ hh=>∃v,τ=[some (.tup [a,b]),v]/\hh=[]/\pre.all isInt=true)
  (λv hh=>v=.bl false/\hh=[]/\([a,b]:List D).all isInt=false)
  [a,b] [] [some (.tup [a,b]),none] [] ?_ ⟨none,rfl,rfl,rfl⟩
 .rw[dE]at lp;have ev:([a,b]:List D).all isInt=(isInt a && isInt b):=by simp
  rcases lp with⟨τ',h',e',v,rfl,rfl,pe⟩|⟨v,h',e',rfl,rfl,pe⟩
  .refine ai (ah (λz=>toR (thn z _)) e') ?_;rw[bG,ev]at pe;rw[a1l,pe];exact ah toR (fu ckk)
  .refine ai (ah (λz=>toR (thn z _)) e') ?_;rw[a5y,<-ev,pe];rfl
 .rintro pre x post τ hh all ⟨v,rfl,rfl,pe⟩
  rw[bG]at all;have px:PAP.Pln x:=by
   have:x∈[a,b]:=by rw[all];simp
   simp only[aZ,cE,ff]at this
   rcases this with rfl|rfl
   .exact pa
   .exact pb
  refine⟨_,_,rfl,?_⟩
  cases hx:isInt x with
  |false =>
   have c:=cond x [] px;rw[hx]at c;refine .inr ⟨.bl false,[],?_,rfl,rfl,?_⟩
   .unfold xx;exact ai (ifT c) (fu ckk)
   .rw[all];simp[hx]
  |true =>
   have c:=cond x [] px;rw[hx]at c;refine .inl ⟨[some (.tup [a,b]),some x],[],?_,_,rfl,rfl,?_⟩
   .unfold xx;exact ai (ifF c) rfl
   .simp[pe,hx]
def c7:Nat->SF
 |0=>λ_ _=>.no
 |n+1=>jt (v7 (c7 n) bu m8) 5
theorem a89(l:List Nat)(h:Hd):a71 [.rol (l.map bz)] h=.ok (bz l.sum) h:=by
 have e:l.map bz=(l.map λn:Nat=>(n:Int)).map D.int:=by rw[cQ];rfl
 have s:∀l:List Nat,(l.map λn:Nat=>(n:Int)).sum=(l.sum:Nat):=λl=>by
  induction l with
  |nil=>rfl
  |cons x l ih=>rw[bg,eL,eL,ih];omega
 unfold a71;simp only[e,SRC.ints_map,s]
theorem ch3{f g k l:SE}{τ:Sd}{h:Hd}{a x y b:Int}(e1:f τ h=.ok (.int a) h)(e2:g τ h=.ok (.int x) h)(e3:k τ h=.ok (.int y) h)(e4:l τ h=.ok (.int b) h) :
  apt gLe gLe gLe f g k l τ h=.ok (.bl (decide (a<=x) && (decide (x<=y) && decide (y<=b)))) h:=by
 have le:∀p q:Int,gLe (.int p) (.int q) h=.ok (.bl (decide (p<=q))) h:=λp q=>rfl;unfold apt;rw[e1,bw,e2,bw,le,bw]
 cases decide (a<=x) with
 |false=>rfl
 |true =>
  simp only[bM,e3,bw,le]
  cases decide (x<=y) with
  |false=>rfl
  |true=>simp only[bM,e4,bw,le]
abbrev τC(t:D)(tg:List Nat)(d:Nat)(p c:Option D):Sd:=[some t,some (.str (S tg)),some (bz d),p,c]
abbrev endC(F:SF):SS:=gh (j5 4 (sZ (mj (sIt (sV 3)) t1 (p8 F bu m8) [1,2])))
 (jf (afn (sOr (sT (s2 (aa5 false) (sV 4) (sZ (sA ye aq)))) (sT (s2 (gIn false) (sI 0) (sV 4)))) (sI 0) (s2 dm (sI 1) (sA a71 (aj (sV 4) aq)))))
noncomputable def tot(cs:List Nat):Nat:=if cs=[]\/0∈cs then 0 else 1+cs.sum
theorem aw7{F:SF}{tg:List Nat}{d:Nat}{t:D}{ps:List D}{f:D->Nat}(l:ps.length<=6)(ih:∀p∈ps,Pu F 3 [p,.str (S tg),bz d] (bz (f p))) :
  toR (endC F (τC t tg (d+1) (some (.rol ps)) none) [])=.ok (bz (tot (ps.map f))) []:=by
 have z:sZ (mj (sIt (sV 3)) t1 (p8 F bu m8) [1,2]) (τC t tg (d+1) (some (.rol ps)) none) []=.ok (.rol ((ps.map f).map bz)) []:=by
  refine a4x ?_ (g8 λ_ _=>dh _) (by simp)
  rw[cQ];refine qj (λp:D=>p) (λp=>bz (f p)) ps (a75 (bh rfl) (by rw[dE];rfl)) (bx (by omega)) λp hp=>?_
  rw[v5];unfold p8;exact a2x (bh rfl) (bh rfl) (nj rfl (avt (a:=d+1) (b:=1) (by omega))) (ih p hp _)
 refine etr (j9 z) ?_
 generalize ps.map f=cs
 have e0:sZ (sA MI.ye aq) (List.set (τC t tg (d+1) (some (.rol ps)) none) 4 (some (.rol (cs.map bz)))) []=.ok (.rol []) []:=zds nlo rfl dz nlc (by simp)
 have v4:sV 4 (List.set (τC t tg (d+1) (some (.rol ps)) none) 4 (some (.rol (cs.map bz)))) []=.ok (.rol (cs.map bz)) []:=bh rfl;have c:sOr (sT (s2 (aa5 false) (sV 4) (sZ (sA MI.ye aq)))) (sT (s2 (gIn false) (sI 0) (sV 4))) (List.set (τC t tg (d+1) (some (.rol ps)) none) 4 (some (.rol (cs.map bz)))) []=.ok (cs.isEmpty || decide (0∈cs)) [] :=
  orB (t2s v4 e0 (ahd _ _)) λ_=>t2s ckk v4 (DRW.aw1 0 cs _)
 have q:(cs.isEmpty || decide (0∈cs))=decide (cs=[]\/0∈cs):=by cases cs<;>simp
 rw[q]at c;unfold tot
 by_cases w:cs=[]\/0∈cs
 .rw[ay w]at c;rw[av w];exact ah toR (fu (SRC.b1y c ckk))
 .rw[ar w]at c;rw[aO w];exact ah toR (fu (SRC.b1z c (jb ckk (jo v4 (a89 _ _)) (DRW.aeg (a:=1)))))
theorem aw8{tg:List Nat}(ht:∀c∈tg,c∈sig){x:Str}{y:D}{r:List D}(h:(x == "one")=true):(jl (.tup (.str x::y::r)) && okP tg (.tup (.str x::y::r)))=(r.isEmpty && alc tg y):=by
 match r with
 |[] =>
  show((if (x == "one")=true then a2k y else _) && okP tg (.tup [.str x,y]))=alc tg y
  rw[av h]
  cases y<;>first|rfl|skip
  rename_i z;show(a2k (.str z) && (match (if (x == "one")=true then some z.cps.toList else none) with|some l=>a79 tg l|none=>true))=alb tg z.cps.toList
  rw[av h,ahe ht];rfl
 |[a]=>rfl
 |[a,b] =>
  show((!(x == "one") && _) && _)=false;rw[h];rfl
 |a::b::c::r=>rfl
theorem aw9{tg:List Nat}{x:Str}{y:D}{r:List D}(h:(x == "one")=false):okP tg (.tup (.str x::y::r))=true:=by
 cases y<;>first|rfl|skip
 rename_i z;show(match (if (x == "one")=true then some z.cps.toList else none) with|some l=>a79 tg l|none=>true)=true
 rw[aO (by rw[h];decide)]
theorem az3{x:Str}{r:List D}{τ:Sd}{h:Hd}:sT (s2 (gIn false) (s2 gIx (sV 0) (sI 0)) (sA MI.dj (aj (sC (.str "row")) (aj (sC (.str "either")) aq)))) (some (.tup (.str x::r))::τ) h=.ok (x == "row" || x == "either") h:=by
 have e:(("row" : Str) == x || (("either" : Str) == x || false))=(x == "row" || x == "either"):=by
  rw[eE,Bool.beq_comm (a:=("row" : Str)),Bool.beq_comm (a:=("either" : Str))]
 have:=DRW.a4o x h
 rw[e]at this;exact t2s (nj rfl ix0) (lq ckk ckk a05) this
noncomputable def smT:D->Bool|.tup ps=>decide ((ps.length:Int)<=6)|_=>false
theorem awa(y:D):smT y=vo 0 6 y:=by
 cases y<;>first|rfl|skip
 rename_i ps;exact cG.mpr (by omega)
theorem az4{x:Str}{y:D}{r:List D}{τ:Sd}{h:Hd}(py:PAP.Pln y) :
  yp (sT (s2 (gIn false) (s2 gIx (sV 0) (sI 0)) (sA MI.dj (aj (sC (.str "row")) (aj (sC (.str "either")) aq))))) (yp (sT (s2 hEq (sA kj (aj (sV 0) aq)) (sI 2))) (yp (a0b (sA m5 (aj (s2 gIx (sV 0) (sI 1)) (aj (sC (.ty "tuple")) aq)))) (sT (s2 gLe (sA kj (aj (s2 gIx (sV 0) (sI 1)) aq)) (sI 6))))) (some (.tup (.str x::y::r))::τ) h
   = .ok ((x == "row" || x == "either") && (r.isEmpty && vo 0 6 y)) h:=by
 rw[<-awa];refine aw6 az3 λ_=>aw6 ?_ λ_=>?_
 .have:=ar0 (xs:=.str x::y::r) (τ:=τ) (h:=h) 2
  have e:decide ((D.str x::y::r).length=2)=r.isEmpty:=by cases r<;>simp
  rw[e]at this;exact tof this
 .have a:=aw6 (b:=smT y) (iy (lq (jb (bh (i:=0) rfl) ckk ix1) ckk (PAP.ab7 py (h:=h))) (fj _)) (τ:=some (.tup (.str x::y::r))::τ) (g:=sT (s2 gLe (sA kj (aj (s2 gIx (sV 0) (sI 1)) aq)) (sI 6))) λt=>by
   cases y<;>first|(cases t;done)|skip
   rename_i ps;exact t2s (jo (nj rfl ix1) (K20.len_T ps h)) ckk rfl
  rw[a]
  cases y<;>rfl
theorem az5{x:Str}{y:D}{r:List D}{τ:Sd}{h:Hd}:yp (sT (s2 hEq (s2 gIx (sV 0) (sI 0)) (sC (.str "many")))) (sT (s2 hEq (sA kj (aj (sV 0) aq)) (sI 2))) (some (.tup (.str x::y::r))::τ) h=.ok (x == "many" && r.isEmpty) h:=by
 refine aw6 a78 λ_=>?_;have:=ar0 (xs:=.str x::y::r) (τ:=τ) (h:=h) 2;have e:decide ((D.str x::y::r).length=2)=r.isEmpty:=by cases r<;>simp
 rw[e]at this;exact tof this
def tmB:List D->Bool|[a,b]=>al6 a b|_=>false
theorem awb{a b:D}(h:(isInt a && isInt b)=false):al6 a b=false:=by
 cases b with
 |int j =>
  have h:isInt a=false:=by simpa[isInt] using h
  show(a4m 0 4 (.int j) && a4m 0 j a)=false;rw[K20.avm h,cP]
 |_=>rfl
theorem az6{x:Str}{y:D}{r:List D}{τ:Sd}{h:Hd}(pr:∀a∈r,PAP.Pln a) :
  yp (sT (s2 hEq (s2 gIx (sV 0) (sI 0)) (sC (.str "times")))) (yp (sT (s2 hEq (sA kj (aj (sV 0) aq)) (sI 4))) (yp (a0b (sA (gm false 1 m8) (aj (vm (sV 0) (oS (sI 2)) oN) aq))) (sT (apt gLe gLe gLe (sI 0) (s2 gIx (sV 0) (sI 2)) (s2 gIx (sV 0) (sI 3)) (sI 4))))) (some (.tup (.str x::y::r))::τ) h
   = .ok (x == "times" && tmB r) h:=by
 refine aw6 a78 λ_=>?_;have l4:=tof (ar0 (xs:=.str x::y::r) (τ:=τ) (h:=h) 4)
 by_cases e:(D.str x::y::r).length=4
 .rw[ay e]at l4
  match r,e with
  |[a,b],_ =>
   have sl:vm (sV 0) (oS (sI 2)) oN (some (.tup [.str x,y,a,b])::τ) h=.ok (.tup [a,b]) h:=PAP.a3d (bh rfl) (PAP.a3c ckk) onn (PAP.yo _ 2 _);have pa:=pr a (by simp)
   have pb:=pr b (by simp)
   refine a4a l4 ?_;have row:=iy (jo sl (aqe pa pb h)) (fj _)
   cases hi:isInt a && isInt b with
   |false =>
    rw[hi]at row;have:tmB [a,b]=false:=awb hi;rw[this];exact a6p row
   |true =>
    rw[hi]at row;rw[af]at hi;obtain⟨i,rfl⟩:∃i,a=.int i:=by cases a<;>first|exact⟨_,rfl⟩|simp[isInt]at hi
    obtain⟨j,rfl⟩:∃j,b=.int j:=by cases b<;>first|exact⟨_,rfl⟩|simp[isInt]at hi
    have c:=ch3 (f:=sC (.int 0)) (g:=s2 gIx (sV 0) (sI 2)) (k:=s2 gIx (sV 0) (sI 3)) (l:=sC (.int 4)) (τ:=some (.tup [.str x,y,.int i,.int j])::τ) (h:=h) ckk (nj rfl ix2) (nj rfl ix3) ckk;have e:(decide ((0:Int)<=i) && (decide (i<=j) && decide (j<=4)))=tmB [.int i,.int j]:=by
     show _=(decide (0<=j/\j<=4) && decide (0<=i/\i<=j));rw[cU];simp only[af,aW];omega
    rw[e]at c;exact a4a row (tof c)
 .rw[ar e]at l4;have:tmB r=false:=by
   match r,e with
   |[],_=>rfl
   |[_],_=>rfl
   |[_,_],e=>exact absurd rfl e
   |_::_::_::_,_=>rfl
  rw[this];exact a6p l4
theorem aqf{x:Str}{y:D}{r:List D}(h:(x == "one")=false):jl (.tup (.str x::y::r))=((x == "row" && (r.isEmpty && vo 0 6 y)) || (x == "either" && (r.isEmpty && vo 1 6 y)) || (x == "many" && r.isEmpty) || (x == "times" && tmB r)):=by
 have no:∀z:Str,(x == z)=true->x=z:=λz q=>by simpa using q
 match r with
 |[] =>
  show(if (x == "one")=true then a2k y else if (x == "row")=true then vo 0 6 y else if (x == "either")=true then vo 1 6 y else x == "many")=_
  rw[aO (by rw[h];decide)]
  show _=((x == "row" && vo 0 6 y) || (x == "either" && vo 1 6 y) || (x == "many" && true) || (x == "times" && false))
  rw[cF,cP,eE]
  by_cases h1:(x == "row")=true
  .obtain rfl:=no _ h1
   rw[av h1,show(("row" : Str) == "either")=false by decide +kernel,show(("row" : Str) == "many")=false by decide +kernel,h1]
   simp
  rw[aO h1]
  by_cases h2:(x == "either")=true
  .obtain rfl:=no _ h2
   rw[av h2,show(("either" : Str) == "row")=false by decide +kernel,show(("either" : Str) == "many")=false by decide +kernel,h2]
   simp
  rw[aO h2,fA h1,fA h2];simp
 |[a]=>show false=_;simp[tmB]
 |[a,b] =>
  show(!(x == "one") && (!(x == "row") && (!(x == "either") && (!(x == "many") && (x == "times" && al6 a b)))))=_;rw[h];show _=((x == "row" && (false && vo 0 6 y)) || (x == "either" && (false && vo 1 6 y)) || (x == "many" && false) || (x == "times" && al6 a b))
  by_cases t:(x == "times")=true
  .obtain rfl:=no _ t
   rw[show(("times" : Str) == "either")=false by decide +kernel,show(("times" : Str) == "many")=false by decide +kernel,show(("times" : Str) == "row")=false by decide +kernel]
   simp
  .rw[fA t];simp
 |a::b::c::r=>show false=_;simp[tmB]
noncomputable def lpT(t:D):List D:=if jl t=true then inT t else []
abbrev az7:SS:=(sIf (yp (sT (s2 (gIn false) (s2 gIx (sV 0) (sI 0)) (sA MI.dj (aj (sC (.str "row")) (aj (sC (.str "either")) aq))))) (yp (sT (s2 hEq (sA kj (aj (sV 0) aq)) (sI 2))) (yp (a0b (sA m5 (aj (s2 gIx (sV 0) (sI 1)) (aj (sC (.ty "tuple")) aq)))) (sT (s2 gLe (sA kj (aj (s2 gIx (sV 0) (sI 1)) aq)) (sI 6))))))
 (gh (sIf (sT (s2 av0 (sV 0) (sA MI.dj (aj (sC (.str "row")) (aj (sA MI.dj aq) aq)))))
 (jf (sI 1))
 sNx)
 (j5 3 (sZ (sA a2j (aj (s2 gIx (sV 0) (sI 1)) aq)))))
 (sIf (yp (sT (s2 hEq (s2 gIx (sV 0) (sI 0)) (sC (.str "many")))) (sT (s2 hEq (sA kj (aj (sV 0) aq)) (sI 2))))
 (j5 3 (sZ (sA MI.ye (aj (s2 gIx (sV 0) (sI 1)) aq))))
 (sIf (yp (sT (s2 hEq (s2 gIx (sV 0) (sI 0)) (sC (.str "times")))) (yp (sT (s2 hEq (sA kj (aj (sV 0) aq)) (sI 4))) (yp (a0b (sA (gm false 1 m8) (aj (vm (sV 0) (oS (sI 2)) oN) aq))) (sT (apt gLe gLe gLe (sI 0) (s2 gIx (sV 0) (sI 2)) (s2 gIx (sV 0) (sI 3)) (sI 4))))))
 (j5 3 (sZ (sA MI.ye (aj (s2 gIx (sV 0) (sI 1)) aq))))
 sNx)))
theorem awc{tg:List Nat}{d:Nat}{x:Str}{y:D}{r:List D}(h1:(x == "one")=false)(k:Deep 2 (.tup (.str x::y::r))) :
  (az7 (τC (.tup (.str x::y::r)) tg (d+1) (some (.rol [])) none) []=.rt (.int 1) []/\jl (.tup (.str x::y::r))=true/\inT (.tup (.str x::y::r))=[])
  \/ (az7 (τC (.tup (.str x::y::r)) tg (d+1) (some (.rol [])) none) []=.nx (τC (.tup (.str x::y::r)) tg (d+1) (some (.rol (lpT (.tup (.str x::y::r))))) none) []
   /\ (jl (.tup (.str x::y::r))=true->inT (.tup (.str x::y::r))≠[])):=by
 have no:∀z:Str,(x == z)=true->x=z:=λz q=>by simpa using q
 have kp:=(k.2 _ rfl).2;have py:PAP.Pln y:=(kp y (by simp)).pln
 have pr:∀a∈r,PAP.Pln a:=λa ha=>(kp a (by simp[ha])).pln
 have fm:=aqf (y:=y) (r:=r) h1;have c1:=az4 (x:=x) (y:=y) (r:=r) (τ:=[some (.str (S tg)),some (bz (d+1)),some (.rol []),none]) (h:=[]) py;have c2:=az5 (x:=x) (y:=y) (r:=r) (τ:=[some (.str (S tg)),some (bz (d+1)),some (.rol []),none]) (h:=[]);have c3:=az6 (x:=x) (y:=y) (r:=r) (τ:=[some (.str (S tg)),some (bz (d+1)),some (.rol []),none]) (h:=[]) pr;have one:sZ (sA MI.ye (aj (s2 gIx (sV 0) (sI 1)) aq)) (τC (.tup (.str x::y::r)) tg (d+1) (some (.rol [])) none) []=.ok (.rol [y]) [] :=
  zds (cns (nj rfl ix1) nlo) rfl (bj py.clo dz) nlc (by simp)
 cases v1:(x == "row" || x == "either") && (r.isEmpty && vo 0 6 y) with
 |true =>
  rw[v1]at c1;simp only[af]at v1;obtain⟨w,rn,ly⟩:=v1;obtain rfl:r=[]:=by simpa using rn
  obtain⟨ps,rfl⟩:∃ps,y=.tup ps:=by cases y<;>first|exact⟨_,rfl⟩|simp[vo]at ly
  have il:inT (.tup [.str x,.tup ps])=ps:=by rw[a0a,aO (by rw[h1];decide),av w]
  have ee:s2 av0 (sV 0) (sA MI.dj (aj (sC (.str "row")) (aj (sA MI.dj aq) aq))) (τC (.tup [.str x,.tup ps]) tg (d+1) (some (.rol [])) none) []=.ok (.bl (x == "row" && ps.isEmpty)) []:=jb (bh rfl) (lq ckk (aoo nlo PAP.a5g) a05) rfl
  cases v2:x == "row" && ps.isEmpty with
  |true =>
   rw[v2]at ee;rw[af]at v2;obtain rfl:ps=[]:=by simpa using v2.2
   refine .inl ⟨?_,?_,il⟩
   .exact ai (ifT c1) (jd (ai (ifT (tof ee)) (fu ckk)))
   .rw[fm,v2.1];rfl
  |false =>
   rw[v2]at ee;have lz:sZ (sA a2j (aj (s2 gIx (sV 0) (sI 1)) aq)) (τC (.tup [.str x,.tup ps]) tg (d+1) (some (.rol [])) none) []=.ok (.rol ps) []:=EVT.yh (nj rfl ix1) rfl py nlc;have run:az7 (τC (.tup [.str x,.tup ps]) tg (d+1) (some (.rol [])) none) []=.nx (τC (.tup [.str x,.tup ps]) tg (d+1) (some (.rol ps)) none) []:=by
    refine ai (ifT c1) ?_;refine ai (ifN (tof ee)) ?_;unfold j5;rw[lz];rfl
   have lp:lpT (.tup [.str x,.tup ps])=ps:=by
    unfold lpT;rw[il]
    split
    .rfl
    .rename_i nf;rw[fm]at nf
     cases ps with
     |nil=>rfl
     |cons p ps =>
      exfalso
      apply nf
      have l1:=bL ly;have l2:vo 1 6 (.tup (p::ps))=true:=ay (by simp only[aL]at l1 ⊢;omega)
      rw[ly,l2]
      rcases cC _ _ ▸ w with q|q
      .rw[q];simp
      .rw[q];simp
   refine .inr ⟨by rw[lp];exact run,λft e=>?_⟩
   rw[il]at e;subst e;have v2:(x == "row")=false:=by simpa using v2
   rw[fm,v2]at ft;simp[vo,tmB]at ft;rw[v2,fg]at w;have e2:=no _ w;subst e2;exact absurd ft (by decide +kernel)
 |false =>
  rw[v1]at c1
  cases v2:x == "many" && r.isEmpty with
  |true =>
   rw[v2]at c2;rw[af]at v2;obtain rfl:r=[]:=by simpa using v2.2
   have e2:=no _ v2.1;subst e2;have ft:jl (.tup [.str "many",y])=true:=by rw[fm,v2.1];simp
   have il:inT (.tup [.str "many",y])=[y]:=by rw[a0a,aO (by decide +kernel),aO (by decide +kernel)]
   refine .inr ⟨?_,λ_=>by rw[il];simp⟩
   refine ai (ifF c1) ?_;refine ai (ifT c2) ?_;unfold j5 lpT;rw[one,av ft,il];rfl
  |false =>
   rw[v2]at c2
   cases v3:x == "times" && tmB r with
   |true =>
    rw[v3]at c3;have e2:=no _ (af _ _ ▸ v3).1;have ft:jl (.tup (.str x::y::r))=true:=by rw[fm,v3];simp
    subst e2;have il:inT (.tup (.str "times"::y::r))=[y]:=by rw[a0a,aO (by decide +kernel),aO (by decide +kernel)]
    refine .inr ⟨?_,λ_=>by rw[il];simp⟩
    refine ai (ifF c1) ?_;refine ai (ifF c2) ?_;refine ai (ifT c3) ?_;unfold j5 lpT;rw[one,av ft,il];rfl
   |false =>
    rw[v3]at c3;have nf:jl (.tup (.str x::y::r))=false:=by
     have l01:vo 1 6 y=true->vo 0 6 y=true:=λq=>by
      cases y<;>first|(simp[vo]at q;done)|skip
      rename_i ps;exact ay (by have:=bL q;omega)
     rw[fm,v2,v3];rw[Bool.eq_false_iff]
     intro q
     simp only[eE,cC,af]at q
     apply Bool.eq_false_iff.mp v1
     simp only[cC,af]
     rcases q with⟨a,b,c⟩|⟨a,b,c⟩
     .exact⟨.inl a,b,c⟩
     .exact⟨.inr a,b,l01 c⟩
    refine .inr ⟨?_,λz=>by rw[nf]at z;cases z⟩
    refine ai (ifF c1) ?_;refine ai (ifF c2) ?_;refine ai (ifF c3) ?_;unfold lpT;rw[aO (by rw[nf];decide)]
    rfl
theorem a6h{tg:List Nat}(ht:∀c∈tg,c∈sig):∀{n d:Nat} {t:D},Deep (2*d) t->d<n->Pu (c7 n) 3 [t,.str (S tg),bz d] (bz (ct tg d t))
 |0,d,t,k,h=>absurd h (by omega)
 |n+1,d,t,k,h=>by
  refine Pu.of rfl (K20.ar3 k.pln.clo (cu _) (dh _)) (r:=.ok (bz (ct tg d t)) []) ?_ (km (dh _) (by simp)) (dh _)
  rw[c7,du];show toR (v7 (c7 n) bu m8 (τC t tg d none none) [])=_;unfold v7;have ist:=iy (lq (bh (i:=0) (τ:=τC t tg d none none) (h:=[]) rfl) ckk (PAP.ab7 k.pln (h:=[]))) (fj _);have zero:∀{g:SS} {c:ST},c (τC t tg d none none) []=.ok true []->ct tg d t=0->toR (gh (sIf c (jf (sI 0)) sNx) g (τC t tg d none none) [])=.ok (bz (ct tg d t)) []:=λc e=>by
   rw[e];exact ah toR (jd (ai (ifT c) (fu ckk)))
  have ctf:jl t=false->ct tg d t=0:=λnf=>by
   cases d with
   |zero=>rfl
   |succ d=>rw[ct,nf,dI,aO (by decide)]
  cases hi:PAP.isTup t with
  |false =>
   rw[hi]at ist;exact zero (orT (a0z ist)) (ctf (by cases t<;>first|rfl|simp[PAP.isTup]at hi))
  |true =>
   rw[hi]at ist;obtain⟨xs,rfl⟩:∃xs,t=.tup xs:=by cases t<;>first|exact⟨_,rfl⟩|simp[PAP.isTup]at hi
   have lt:s2 gLt (sA kj (aj (sV 0) aq)) (sI 2) (τC (.tup xs) tg d none none) []=.ok (.bl (decide ((xs.length:Int)<2))) []:=jb (jo (bh rfl) (K20.len_T xs _)) ckk rfl
   match xs with
   |[]=>exact zero (orF (um ist) (orT (tof lt))) (ctf rfl)
   |[a]=>exact zero (orF (um ist) (orT (tof lt))) (ctf (by cases a<;>rfl))
   |a::y::r =>
    have lt':s2 gLt (sA kj (aj (sV 0) aq)) (sI 2) (τC (.tup (a::y::r)) tg d none none) []=.ok (.bl false) []:=by
     rw[lt,ar (by simp only[aL];omega)]
    cases d with
    |zero=>exact zero (orF (um ist) (orF (tof lt') (orT (tvc rfl (xu (by simp)))))) rfl
    |succ d =>
     have k2:Deep (2*d+2) (.tup (a::y::r)):=k;have dn:∀{a b:Nat} {u:D},Deep (a+b) u->Deep a u:=λ{a b u} q=>by
      induction b with
      |zero=>exact q
      |succ b ihb=>exact ihb q.down
     have k3:Deep 2 (.tup (a::y::r)):=dn (a:=2) (b:=2*d) (by rwa[eS 2])
     have kp:=(k3.2 _ rfl).2;have pa:PAP.Pln a:=(kp a (by simp)).pln
     have py:PAP.Pln y:=(kp y (by simp)).pln
     have ne:sT (s2 hEq (sV 2) (sI 0)) (τC (.tup (a::y::r)) tg (d+1) none none) []=.ok false []:=tvc rfl (wk (by omega))
     have iss:=iy (lq (jb (bh (i:=0) (τ:=τC (.tup (a::y::r)) tg (d+1) none none) (h:=[]) rfl) (a6o (.int 0) _ _) ix0) ckk (K20.ab8 pa (h:=[]))) (fj _)
     cases hs:isStr a with
     |false =>
      rw[hs]at iss;refine zero (orF (um ist) (orF (tof lt') (orF ne (a0z iss)))) (ctf ?_)
      cases a<;>first|(cases hs;done)|(match r with|[]=>rfl|[_]=>rfl|[_,_]=>rfl|_::_::_::_=>rfl)
     |true =>
      rw[hs]at iss;obtain⟨x,rfl⟩:∃x,a=.str x:=by cases a<;>first|exact⟨_,rfl⟩|simp[isStr]at hs
      refine eti (orF (um ist) (orF (tof lt') (orF ne (um iss)))) ?_;have tb:=a78 (x:=x) (y := "one") (r:=y::r) (τ:=[some (.str (S tg)),some (bz (d+1)),none,none]) (h:=[])
      cases h1:x == "one" with
      |true =>
       rw[h1]at tb;refine ah toR (jd (ai (ifT tb) (fu ?_)));have e:=aw8 ht (y:=y) (r:=r) h1;have ln:=ar0 (xs:=.str x::y::r) (τ:=[some (.str (S tg)),some (bz (d+1)),none,none]) (h:=[]) 2;have le:decide ((D.str x::y::r).length=2)=r.isEmpty:=by cases r<;>simp
       rw[le]at ln;have il:inT (.tup (.str x::y::r))=[]:=by rw[a0a,av h1]
       have cv:ct tg (d+1) (.tup (.str x::y::r))=if (r.isEmpty && alc tg y)=true then 1 else 0:=by
        rw[ct,e,il];rfl
       rw[cv];have gi:∀b:Bool,ajk [.bl b] []=.ok (bz (if b=true then 1 else 0)) []:=λb=>by cases b<;>rfl
       refine jo ?_ (gi _)
       cases hr:r.isEmpty with
       |false=>rw[hr]at ln;exact PAP.a4l ln
       |true=>rw[hr]at ln;exact a1c ln (lq (nj rfl ix1) (bh rfl) (a9z py _))
      |false =>
       rw[h1]at tb;refine etr (ifN tb) ?_;refine ets (zds nlo rfl dz nlc (by simp)) ?_
       have ih:∀p∈lpT (.tup (.str x::y::r)),Pu (c7 n) 3 [p,.str (S tg),bz d] (bz (ct tg d p)):=λp hp=>by
        unfold lpT at hp
        split at hp
        .rename_i f;exact a6h ht (n:=n) (a4n (n:=2*d) k2 f hp) (by omega)
        .simp at hp
       have ok:=aw9 (tg:=tg) (y:=y) (r:=r) h1
       rcases awc (tg:=tg) (d:=d) h1 k3 with⟨e,f,i0⟩|⟨e,ni⟩
       .refine etr (jd e) ?_;rw[ct,f,ok,i0];rfl
       .refine etr (rm e) ?_;have ll:(lpT (.tup (.str x::y::r))).length<=6:=by
         unfold lpT
         split
         .rename_i f;exact ah5 f
         .simp
        refine ai (aw7 ll ih) ?_
        congr 2
        rw[ct,ok,cF];unfold lpT tot
        cases f:jl (.tup (.str x::y::r)) with
        |false=>simp
        |true =>
         rw[av rfl,av rfl];have:(inT (.tup (.str x::y::r))).map (ct tg d)≠[]:=λz=>ni f (fw.mp z);simp[this]
end K16
namespace K16
open L2 MI AT HND EVX
open K20 (a4m vo a2k isInt a4b isStr Deep)
open DRW (nmD az)
theorem awd(c:Nat):decide (c∈az)=a3e c:=by
 have lo:∀c:Nat,c<128->decide (c∈az)=a3e c:=by decide +kernel
 by_cases h:c<128
 .exact lo c h
 .have:c∉az:=λz=>by
   have:∀c∈az,c<128:=by decide +kernel
   exact h (this c z)
  rw[ar this];unfold a3e;rw[ar (show ¬ c<=122 by omega),cP]
theorem aqg(neg:Bool)(l:List (List Nat))(h:Hd):aa5 neg (.rol (l.map nmD)) (.rol []) h=.ok (.bl (if neg=true then !l.isEmpty else l.isEmpty)) h:=by
 have p:(l.map nmD).all (pur 59)=true:=by
  rw[aM]
  intro x hx
  obtain⟨y,_,rfl⟩:=bD.mp hx;rfl
 unfold aa5;simp only[zg,p,cZ,Bool.and_self,ef]
 cases l<;>rfl
noncomputable def nmL(d:D):Option (List Nat):=(nmO d).map λx=>x.cps.toList
theorem anj:∀rs:List D,(rs.filterMap nmL).Nodup↔(rs.filterMap nmO).Nodup:=λrs=>by
 have m:rs.filterMap nmL=(rs.filterMap nmO).map λx=>x.cps.toList:=by
  rw[List.map_filterMap];rfl
 rw[m]
 constructor
 .exact λh=>List.Pairwise.of_map _ (λa b q e=>q (by rw[e])) h
 .intro h
  refine List.pairwise_map.mpr (List.Pairwise.imp (λ{a b} hab z=>hab ?_) h);rw[<-a1b a,<-a1b b,z]
def j4:SF:=jt (v8 (c7 6) bu SRC.b8) 4
abbrev τB(d:D)(r s:Option D):Sd:=[some d,some (.ref 0),r,s]
theorem aqh{t:List Nat}{rs ns:List D}{x:D}{a b:Option D}{nl:List (List Nat)}(ht:∀c∈t,c∈sig)(px:Deep 11 x)(nn:nl.length<=7) :
  (a9x t x=false\/∃n,nmL x=some n/\n∈nl)/\(∃h',lr (c7 6) bu SRC.b8 (τB (.tup [.str (S t),.tup rs]) (some x) b) [.lst (nl.map nmD)]=.rt (.bl false) h')
  \/ ∃n b',a9x t x=true/\nmL x=some n/\n∉nl/\lr (c7 6) bu SRC.b8 (τB (.tup [.str (S t),.tup rs]) (some x) b) [.lst (nl.map nmD)]=.nx (τB (.tup [.str (S t),.tup rs]) (some x) b') [.lst ((nl++[n]).map nmD)]:=by
 unfold lr;have stop:∀{c:ST} {g:SS} {τ:Sd} {h:Hd},c τ h=.ok true h->gh (sIf c (jf (sC (.bl false))) sNx) g τ h=.rt (.bl false) h:=λc=>jd (ai (ifT c) (fu ckk));have ist:=iy (lq (bh (i:=2) (τ:=τB (.tup [.str (S t),.tup rs]) (some x) b) (h:=[.lst (nl.map nmD)]) rfl) ckk (PAP.ab7 px.pln (h:=_))) (fj _)
 cases hi:PAP.isTup x with
 |false =>
  rw[hi]at ist;refine .inl ⟨.inl ?_,_,stop (orT (a0z ist))⟩
  cases x<;>first|rfl|simp[PAP.isTup]at hi
 |true =>
  rw[hi]at ist;obtain⟨xs,rfl⟩:∃xs,x=.tup xs:=by cases x<;>first|exact⟨_,rfl⟩|simp[PAP.isTup]at hi
  have ln:sT (s2 hNe (sA kj (aj (sV 2) aq)) (sI 2)) (τB (.tup [.str (S t),.tup rs]) (some (.tup xs)) b) [.lst (nl.map nmD)]=.ok (!decide (xs.length=2)) [.lst (nl.map nmD)]:=by
   refine t2s (jo (bh rfl) (K20.len_T xs _)) ckk ?_;show R.ok (D.bl (!((xs.length:Int) == 2))) _=_
   congr 3
   rw[cU,fh,aW];omega
  by_cases l2:xs.length=2
  .rw[ay l2]at ln
   match xs,l2 with
   |[n,s],_ =>
    have pn:PAP.Pln n:=((px.2 _ rfl).2 n (by simp)).pln
    have ps:Deep 10 s:=(px.2 _ rfl).2 s (by simp)
    have iss:=iy (lq (jb (bh (i:=2) (τ:=τB (.tup [.str (S t),.tup rs]) (some (.tup [n,s])) b) (h:=[.lst (nl.map nmD)]) rfl) (a6o (.int 0) _ _) ix0) ckk (K20.ab8 pn (h:=_))) (fj _)
    cases hs:isStr n with
    |false =>
     rw[hs]at iss;refine .inl ⟨.inl ?_,_,stop (orF (um ist) (orF ln (a0z iss)))⟩;show(ah8 n && _)=false
     cases n<;>first|rfl|simp[isStr]at hs
    |true =>
     rw[hs]at iss;obtain⟨x,rfl⟩:∃x,n=.str x:=by cases n<;>first|exact⟨_,rfl⟩|simp[isStr]at hs
     rw[ifN (orF (um ist) (orF ln (um iss)))];have xl:x.cps.toList.length<=1000:=pn;have rb:a9x t (.tup [.str x,s])=(an4 x.cps.toList && decide (1<=ct t 5 s/\ct t 5 s<=24)):=by
      show(ah8 (.str x) && _)=_;rw[ahq];rfl
     have nx:nmL (.tup [.str x,s])=some x.cps.toList:=rfl;rw[rb,nx]
     clear rb nx iss ln ist px pn
     rw[<-a1b x]
     generalize x.cps.toList=l at xl
     have g0:∀(v:Option D) (h:Hd),s2 gIx (sV 2) (sI 0) (τB (.tup [.str (S t),.tup rs]) (some (.tup [.str (S l),s])) v) h=.ok (.str (S l)) h:=λv h=>nj rfl ix0;have z:sZ (a1g (sIt (s2 gIx (sV 2) (sI 0))) t1 (ph (c7 6) bu SRC.b8) (yg (c7 6) bu SRC.b8) []) (τB (.tup [.str (S t),.tup rs]) (some (.tup [.str (S l),s])) b) [.lst (nl.map nmD)]=.ok (.rol (((l.filter λc => !a3e c).map λc=>[c]).map nmD)) [.lst (nl.map nmD)]:=by
      have fm:((l.filter λc => !a3e c).map λc=>[c]).map nmD=l.filterMap λc=>if a3e c=true then none else some (nmD [c]):=by
       clear g0 xl
       induction l with
       |nil=>rfl
       |cons c l ih =>
        rw[List.filter_cons,bN]
        cases a3e c with
        |true=>simpa using ih
        |false=>simpa using ih
      rw[fm];refine a4x (a67 (λc:Nat=>nmD [c]) (λc=>if a3e c=true then none else some (nmD [c])) l (a75 (g0 _ _) (PAP.ax3 l _)) (bx (by omega)) λc _=>?_) ?_ ?_
      .rw[ab4];have i:=K20.ax4 true c az [.lst (nl.map nmD)];rw[av rfl,awd]at i;have tt:ph (c7 6) bu SRC.b8 (some (nmD [c])::frs' [] (τB (.tup [.str (S t),.tup rs]) (some (.tup [.str (S l),s])) b)) [.lst (nl.map nmD)]=.ok (!a3e c) [.lst (nl.map nmD)]:=by
        unfold ph;rw[DRW.b03];exact tvc rfl i
       rw[tt,bw]
       cases a3e c<;>rfl
      .exact iz.mpr λz hz=>by
        obtain⟨c,_,e⟩:=cX.mp hz
        split at e
        .simp at e
        .injection e with e;subst e;exact cu _
      .intro o ho
       rw[aK]at ho;subst ho;exact g8 λ_ _=>cu _
     rw[j9 z];have hc:∀o∈([.lst (nl.map nmD)]:Hd),yc 0 o:=λo ho=>by
      rw[aK]at ho;subst ho;exact g8 λ_ _=>cu _
     have e0:∀v,sZ (sA MI.ye aq) (τB (.tup [.str (S t),.tup rs]) (some (.tup [.str (S l),s])) v) [.lst (nl.map nmD)]=.ok (.rol []) [.lst (nl.map nmD)]:=λv=>zds nlo rfl dz hc (by simp)
     have st:List.set (τB (.tup [.str (S t),.tup rs]) (some (.tup [.str (S l),s])) b) 3 (some (.rol (((l.filter λc => !a3e c).map λc=>[c]).map nmD)))=τB (.tup [.str (S t),.tup rs]) (some (.tup [.str (S l),s])) (some (.rol (((l.filter λc => !a3e c).map λc=>[c]).map nmD))):=rfl;rw[st];have ch:=K20.ab9 (f:=sC (.int 1)) (g:=sA kj (aj (s2 gIx (sV 2) (sI 0)) aq)) (k:=sC (.int 8)) (τ:=τB (.tup [.str (S t),.tup rs]) (some (.tup [.str (S l),s])) (some (.rol (((l.filter λc => !a3e c).map λc=>[c]).map nmD)))) (h:=[.lst (nl.map nmD)]) ckk (jo (g0 _ _) (a4z (bx (by omega)))) ckk
     have cond:=orB (K20.an2 (tof ch)) λ_=>orB (t2s (bh (i:=3) rfl) (e0 _) (aqg true ((l.filter λc => !a3e c).map λc=>[c]) _)) λ_=>t2s (g0 (some (.rol (((l.filter λc => !a3e c).map λc=>[c]).map nmD))) [.lst (nl.map nmD)]) (bh (i:=1) rfl) (DRW.ane (x:=l) (l:=nl) (i:=0) rfl);have val:(!decide ((1:Int)<=(l.length:Nat)/\((l.length:Nat):Int)<=8) || ((if true=true then !((l.filter λc => !a3e c).map λc=>[c]).isEmpty else ((l.filter λc => !a3e c).map λc=>[c]).isEmpty) || decide (l∈nl)))=(!an4 l || decide (l∈nl)):=by
      have e1:(if true=true then !((l.filter λc => !a3e c).map λc=>[c]).isEmpty else ((l.filter λc => !a3e c).map λc=>[c]).isEmpty) = !l.all a3e:=by
       rw[av rfl]
       congr 1
       rw[cU,List.isEmpty_iff,fw,List.filter_eq_nil_iff,aM];simp
      have e2:decide ((1:Int)<=(l.length:Nat)/\((l.length:Nat):Int)<=8)=decide (1<=l.length/\l.length<=8):=cG.mpr (by omega)
      rw[e1,e2];unfold an4
      cases decide (1<=l.length/\l.length<=8)<;>simp
     rw[val]at cond
     cases hn:an4 l with
     |false =>
      rw[hn]at cond;exact .inl ⟨.inl rfl,_,stop cond⟩
     |true =>
      rw[hn,Bool.not_true,fg]at cond
      by_cases m:l∈nl
      .rw[ay m]at cond;exact .inl ⟨.inr ⟨l,rfl,m⟩,_,stop cond⟩
      .rw[ar m]at cond;rw[ifN cond];have ap:a4g (sML adt (sV 1) (aj (s2 gIx (sV 2) (sI 0)) aq)) (τB (.tup [.str (S t),.tup rs]) (some (.tup [.str (S l),s])) (some (.rol (((l.filter λc => !a3e c).map λc=>[c]).map nmD)))) [.lst (nl.map nmD)]=.nx (τB (.tup [.str (S t),.tup rs]) (some (.tup [.str (S l),s])) (some (.rol (((l.filter λc => !a3e c).map λc=>[c]).map nmD)))) [.lst (nl.map nmD++[nmD l])] :=
        a9n (bh rfl) rfl (cns (g0 _ _) nlo) (acr (i:=0) rfl (acw (by rw[aJ];omega)))
       rw[rm ap];have cn:=a6h ht (n:=6) (d:=5) ps (by omega)
       have ch2:=K20.ab9 (f:=sC (.int 1)) (g:=sA (gm false 3 (c7 6)) (aj (s2 gIx (sV 2) (sI 1)) (aj (s2 gIx (sV 0) (sI 0)) (aj (sI 5) aq)))) (k:=sC (.int 24)) (τ:=τB (.tup [.str (S t),.tup rs]) (some (.tup [.str (S l),s])) (some (.rol (((l.filter λc => !a3e c).map λc=>[c]).map nmD)))) (h:=[.lst (nl.map nmD++[nmD l])]) ckk (a2x (nj rfl ix1) (nj rfl ix0) ckk (cn _)) ckk;have e2:decide ((1:Int)<=(ct t 5 s:Nat)/\((ct t 5 s:Nat):Int)<=24)=decide (1<=ct t 5 s/\ct t 5 s<=24):=cG.mpr (by omega)
       rw[e2]at ch2
       cases hc5:decide (1<=ct t 5 s/\ct t 5 s<=24) with
       |false =>
        rw[hc5]at ch2;exact .inl ⟨.inl rfl,_,ai (ifT (a0z (tof ch2))) (fu ckk)⟩
       |true =>
        rw[hc5]at ch2;refine .inr ⟨l,some (.rol (((l.filter λc => !a3e c).map λc=>[c]).map nmD)),rfl,rfl,m,?_⟩;rw[ifF (um (tof ch2)),cJ];rfl
  .rw[ar l2]at ln;refine .inl ⟨.inl ?_,_,stop (orF (um ist) (orT ln))⟩
   match xs,l2 with
   |[],_=>rfl
   |[_],_=>rfl
   |[_,_],h=>exact absurd rfl h
   |_::_::_::_,_=>rfl
theorem ahs(l:List Nat):alb sig l=K20.aa6 l:=by
 rw[ahe (λ_ h=>h)];unfold K20.aa6 a79
 cases decide (1<=l.length/\l.length<=6)<;>cases decide l.Nodup<;>simp
theorem b27{τ:Sd}:sA MI.ye aq τ []=.ok (.ref 0) [.lst []]:=by
 show MI.ye [] []=_;unfold MI.ye;rw[av (bx (by simp))]
 rfl
theorem aeb{d:D}(p:Deep 13 d):∃h',j4 [d] []=.ok (.bl (a7a d)) h':=by
 unfold j4;rw[du];show ∃h',toR (v8 (c7 6) bu SRC.b8 [some d,none,none,none] [])=_;unfold v8;have stop:∀{c:ST} {g:SS} {τ:Sd} {h:Hd},a7a d=false->c τ h=.ok true h->∃h',toR (gh (sIf c (jf (sC (.bl false))) sNx) g τ h)=.ok (.bl (a7a d)) h':=λz c=>⟨_,by rw[z];exact ah toR (jd (ai (ifT c) (fu ckk)))⟩
 have ist:=iy (lq (bh (i:=0) (τ:=[some d,none,none,none]) (h:=[]) rfl) ckk (PAP.ab7 p.pln (h:=_))) (fj _)
 cases hi:PAP.isTup d with
 |false =>
  rw[hi]at ist;exact stop (by cases d<;>first|rfl|simp[PAP.isTup]at hi) (orT (a0z ist))
 |true =>
  rw[hi]at ist;obtain⟨xs,rfl⟩:∃xs,d=.tup xs:=by cases d<;>first|exact⟨_,rfl⟩|simp[PAP.isTup]at hi
  have ln:sT (s2 hNe (sA kj (aj (sV 0) aq)) (sI 2)) [some (.tup xs),none,none,none] []=.ok (!decide (xs.length=2)) []:=by
   refine t2s (jo (bh rfl) (K20.len_T xs _)) ckk ?_;show R.ok (D.bl (!((xs.length:Int) == 2))) _=_
   congr 3
   rw[cU,fh,aW];omega
  by_cases l2:xs.length=2
  .rw[ay l2]at ln
   match xs,l2 with
   |[t,rs],_ =>
    have pt:PAP.Pln t:=((p.2 _ rfl).2 t (by simp)).pln
    have pr:Deep 12 rs:=(p.2 _ rfl).2 rs (by simp)
    have sg:=iy (lq (jb (bh (i:=0) (τ:=[some (.tup [t,rs]),none,none,none]) (h:=[]) rfl) (a6o (.int 0) _ _) ix0) (av4 (SRC.a2g _)) (a9z (tg:=sig) pt _)) (fj _)
    cases hg:alc sig t with
    |false =>
     rw[hg]at sg;refine stop ?_ (orF (um ist) (orF ln (a0z sg)));unfold a7a
     split
     .rename_i h;injection h with h;injection h with h1 h2;subst h1
      have hg:alb sig _=false:=hg;rw[ahs]at hg;rw[hg];rfl
     .rfl
    |true =>
     rw[hg]at sg;obtain⟨x,rfl⟩:∃x,t=.str x:=by cases t<;>first|exact⟨_,rfl⟩|simp[alc]at hg
     have hg:alb sig x.cps.toList=true:=hg;rw[ahs]at hg;rw[ifN (orF (um ist) (orF ln (um sg)))];have is1:=iy (lq (jb (bh (i:=0) (τ:=[some (.tup [.str x,rs]),none,none,none]) (h:=[]) rfl) (a6o (.int 1) _ _) ix1) ckk (PAP.ab7 pr.pln (h:=_))) (fj _)
     cases hr:PAP.isTup rs with
     |false =>
      rw[hr]at is1;exact stop (by cases rs<;>first|rfl|simp[PAP.isTup]at hr) (orT (a0z is1))
     |true =>
      rw[hr]at is1;obtain⟨ws,rfl⟩:∃ws,rs=.tup ws:=by cases rs<;>first|exact⟨_,rfl⟩|simp[PAP.isTup]at hr
      have gt:sT (s2 gGt (sA kj (aj (s2 gIx (sV 0) (sI 1)) aq)) (sI 6)) [some (.tup [.str x,.tup ws]),none,none,none] []=.ok (decide (6<ws.length)) []:=by
       refine t2s (jo (nj rfl ix1) (K20.len_T ws _)) ckk ?_;show R.ok (D.bl (decide ((6:Int)<(ws.length:Nat)))) _=_
       congr 2
       exact cG.mpr (by omega)
      have val:a7a (.tup [.str x,.tup ws])=(decide (ws.length<=6) && (ws.all (a9x x.cps.toList) && decide (ws.filterMap nmO).Nodup)):=by
       show(K20.aa6 x.cps.toList && _)=_;rw[hg,bM]
      by_cases w6:6<ws.length
      .rw[ay w6]at gt;exact stop (by rw[val,ar (by omega)];rfl) (orF (um is1) gt)
      .rw[ar w6]at gt;rw[ifN (orF (um is1) gt),j9 b27,a9o (a75 (nj rfl ix1) (ah6 _ _)),val,ay (by omega),bM]
       have tl:=hg;unfold K20.aa6 at tl;simp only[af,aM,aW]at tl;have ht:∀c∈x.cps.toList,c∈sig:=tl.2.2;rw[<-a1b x];rw[yu]
       generalize x.cps.toList=tg at ht
       have lp:=a3r (g:=kN 2) (b:=lr (c7 6) bu SRC.b8) (λx:D=>x)
        (λpre τ hh=>∃(nl:List (List Nat)) (a b:Option D),τ=τB (.tup [.str (S tg),.tup ws]) a b/\hh=[.lst (nl.map nmD)]/\pre.all (a9x tg)=true/\pre.filterMap nmL=nl/\nl.Nodup/\nl.length=pre.length)
        (λv hh=>v=.bl false/\(ws.all (a9x tg) && decide (ws.filterMap nmO).Nodup)=false)
        ws [] (τB (.tup [.str (S tg),.tup ws]) none none) [.lst []] ?_ ⟨[],none,none,rfl,rfl,rfl,rfl,.nil,rfl⟩
       .rw[dE]at lp
        rcases lp with⟨τ',h',e',nl,a,b,rfl,rfl,al,fe,nd,_⟩|⟨v,h',e',rfl,pe⟩
        .refine⟨[.lst (nl.map nmD)],ai (ah (λz=>toR (thn z _)) e') ?_⟩;rw[bG]at al fe;rw[a1l,al,bM,ay ((anj ws).mp (by rw[fe];exact nd))]
         exact ah toR (fu ckk)
        .refine⟨h',ai (ah (λz=>toR (thn z _)) e') ?_⟩;rw[a5y,pe];rfl
       .rintro pre y post τ hh all ⟨nl,a,b,rfl,rfl,pa,pf,nd,nn⟩
        rw[bG]at all;have py:Deep 11 y:=(pr.2 _ rfl).2 y (by rw[all];simp)
        refine⟨_,_,rfl,?_⟩;have pl:pre.length<=6:=by rw[all]at w6;simp only[ae,aL]at w6;omega
        rcases aqh (t:=tg) (rs:=ws) (a:=none) (b:=b) (nl:=nl) (ns:=[]) ht py (by omega) with⟨q,h',e'⟩|⟨n,b',q1,q2,q3,e'⟩
        .refine .inr ⟨_,h',e',rfl,?_⟩
         rcases q with q|⟨n,qn,qm⟩
         .rw[all,List.all_append,bC,q];simp
         .rw[ar,cP]
          intro z
          rw[<-anj,all,eT,bN,qn,pf]at z;exact(bA.mp z).2.2 n qm n (by simp) rfl
        .refine .inl ⟨_,_,e',nl++[n],_,b',rfl,rfl,?_,?_,?_,by simp[nn]⟩
         .rw[List.all_append,pa,bC,q1];rfl
         .rw[eT,pf,bN,q2];rfl
         .rw[bA];exact⟨nd,by simp,λu hu v hv z=>by rw[aK]at hv;subst hv;subst z;exact q3 hu⟩
  .rw[ar l2]at ln;refine stop ?_ (orF (um ist) (orT ln));unfold a7a
   split
   .rename_i h
    injection h with h
    subst h;exact absurd rfl l2
   .rfl
theorem aec{d:D}(p:Deep 13 d):Pu j4 1 [d] (.bl (a7a d)):=by
 obtain⟨h',e⟩:=aeb p;exact K20.a1y rfl (K20.ar1 p.pln.clo) e
end K16
namespace K16
open L2 MI AT HND EVX
open SHD
open DRW (wt wts)
open K20 (a4m vo a2k isInt a4b isStr Deep)
def jr:Nat->SF
 |0=>λ_ _=>.no
 |n+1=>jt (a2f je (jr n)) 2
noncomputable def inS:Sh->List Sh
 |.one _=>[]
 |.row ps=>ps
 |.eit ps=>ps
 |.many p=>[p]
 |.tim p _ _=>[p]
theorem ank(s:Sh):inT (sd s)=sds (inS s):=by
 cases s with
 |one l=>rw[sd,inS,sds,a0a,av (by decide +kernel)]
 |row ps=>rw[sd,inS,a0a,aO (by decide +kernel),av (by decide +kernel)]
 |eit ps=>rw[sd,inS,a0a,aO (by decide +kernel),av (by decide +kernel)]
 |many p=>rw[sd,inS,sds,sds,a0a,aO (by decide +kernel),aO (by decide +kernel)]
 |tim p lo hi=>rw[sd,inS,sds,sds,a0a,aO (by decide +kernel),aO (by decide +kernel)]
theorem az8{tg:List Nat}{d:Nat}{s:Sh}(k:a1d tg (d+1) s):(inS s).length<=6/\∀p∈inS s,a1d tg d p:=by
 cases s with
 |one l=>exact⟨by simp[inS],by simp[inS]⟩
 |row ps=>exact⟨k.1,k.2⟩
 |eit ps=>exact⟨k.2.1,k.2.2⟩
 |many p=>exact⟨by simp[inS],λq hq=>by rw[aK.mp hq];exact k⟩
 |tim p lo hi=>exact⟨by simp[inS],λq hq=>by rw[aK.mp hq];exact k.2.2⟩
theorem aa2{tg:List Nat}:∀{n d:Nat} {s:Sh},skB tg d (sd s)=true->a1d tg d s->Deep (2*d) (sd s)->d<=n->Pu (jr n) 1 [sd s] (bz (wt s))
 |n,0,s,_,k,_,_=>k.elim
 |0,d+1,s,_,_,_,h=>absurd h (by omega)
 |n+1,d+1,s,sk,k,dp,h=>by
  rw[skB,af,af]at sk;obtain⟨⟨hf,_⟩,al⟩:=sk;have k2:Deep (2*d+2) (sd s):=dp;have dn:∀{a b:Nat} {u:D},Deep (a+b) u->Deep a u:=λ{a b u} q=>by
   induction b with
   |zero=>exact q
   |succ b ihb=>exact ihb q.down
  have k3:Deep 2 (sd s):=dn (a:=2) (b:=2*d) (by rwa[eS 2])
  have inn:=a6f k3 hf;rw[ank]at inn al;have ok:=az8 k;have ih:∀p∈inS s,Pu (jr n) 1 [sd p] (bz (wt p)):=λp hp=>by
   have m:sd p∈sds (inS s):=by rw[a0e];exact fq hp
   exact aa2 (aM.mp al _ m) (ok.2 p hp) (a4n (n:=2*d) k2 hf (by rw[ank];exact m)) (by omega)
  refine Pu.of rfl (by simp[a2n]) (r:=.ok (bz (wt s)) []) ?_ (km (dh _) (by simp)) (dh _)
  show jt (a2f je (jr n)) 2 [sd s] []=_;rw[du];show toR (a2f je (jr n) [some (sd s),none] [])=_;unfold a2f;have z:sA a71 (aj (sZ (mj (sIt (sA (gm false 1 je) (aj (sV 0) aq))) t1 (a2y je (jr n)) [])) aq) [some (sd s),none] []=.ok (bz ((inS s).map wt).sum) []:=by
   refine jo (a:=.rol (((inS s).map wt).map bz)) ?_ (a89 _ _);refine a4x ?_ (g8 λ_ _=>dh _) (by simp)
   rw[cQ];refine qj sd (λp=>bz (wt p)) (inS s) (a75 (jo (bh rfl) (inn _)) (by rw[a0e];rfl)) (bx (by have:=ok.1;omega)) λp hp=>?_
   rw[v5];exact jo (bh rfl) (ih p hp _)
  have ws:∀l:List Sh,(l.map wt).sum=wts l:=λl=>by
   induction l with
   |nil=>rw[wts];rfl
   |cons p l ih=>rw[bg,eL,wts,ih]
  have hd:∀{x:Str} {r:List D} (y:Str) (v:Option D),sT (s2 hEq (s2 gIx (sV 0) (sI 0)) (sC (.str y))) [some (.tup (.str x::r)),v] []=.ok (x == y) []:=λy v=>a78
  cases s with
  |one l =>
   rw[sd,wt];exact ah toR (jd (ai (ifT (hd _ _)) (fu ckk)))
  |row ps =>
   rw[sd]at z ⊢;rw[wt];refine eti (hd _ _) ?_;refine etr (j9 z) ?_;refine eti (hd _ _) ?_;rw[ws];exact ah toR (fu (bh rfl))
  |eit ps =>
   rw[sd]at z ⊢;rw[wt];refine eti (hd _ _) ?_;refine etr (j9 z) ?_;refine eti (hd _ _) ?_;rw[ws];exact ah toR (fu (bh rfl))
  |many p =>
   rw[sd]at z ⊢;rw[wt];refine eti (hd _ _) ?_;refine etr (j9 z) ?_;refine eti (hd _ _) ?_;exact ah toR (fu (bh (d:=bz (wt p)) (by simp[inS])))
  |tim p lo hi =>
   have h4:=k.2.1;rw[sd]at z ⊢;rw[wt];refine eti (hd _ _) ?_;refine etr (j9 z) ?_;refine ai (ah toR (jd (ai (ifT (hd _ _)) ?_))) rfl;have m:yq (bz hi) (bz (wt p)) []=.ok (bz (hi*wt p)) []:=a2l.trans ((av (.inl ⟨by omega,by omega⟩)).trans (by rw[<-fZ]))
   exact fu (jb (nj rfl ix3) (bh (d:=bz (wt p)) (by simp[inS])) m)
abbrev rdD(p:Str×Sh):D:=.tup [.str p.1,sd p.2]
abbrev bdD(tg:List Nat)(ps:List (Str×Sh)):D:=.tup [.str (S tg),.tup (ps.map rdD)]
structure Bok (tg:List Nat) (ps:List (Str×Sh)):Prop where
 few:ps.length<=6
 sh:∀p∈ps,a1d tg 5 p.2
 sk:∀p∈ps,skB tg 5 (sd p.2)=true
noncomputable def wB(ps:List (Str×Sh)):Nat:=(ps.map λp=>wt p.2).sum
theorem ad7{tg:List Nat}:∀rs:List D,rs.all (a9x tg)=true->∃ps:List (Str×Sh),rs=ps.map rdD/\∀p∈ps,a1d tg 5 p.2/\skB tg 5 (sd p.2)=true
 |[],_=>⟨[],rfl,by simp⟩
 |d::rs,h=>by
  rw[bC,af]at h;obtain⟨x,s,rfl⟩:=ad2 h.1;obtain⟨ps,rfl,k⟩:=ad7 rs h.2;have r:(aid s && ((po 5 s).filterMap onS).all (a79 tg))=true:=by
   have:(ah8 (.str x) && (aid s && ((po 5 s).filterMap onS).all (a79 tg)))=true:=h.1
   rw[af]at this;exact this.2
  have sk:skB tg 5 s=true:=by
   rw[ahq,aW,alj]at r
   cases q:skB tg 5 s with
   |true=>rfl
   |false=>rw[q]at r;simp at r
  obtain⟨s,rfl,ks⟩:=aw5 5 s sk;exact⟨(x,s)::ps,rfl,λp hp=>by rcases aZ.mp hp with rfl|hp;exact⟨ks,sk⟩;exact k p hp⟩
theorem awe{d:D}(h:a7a d=true):∃tg ps,d=bdD tg ps/\Bok tg ps:=by
 unfold a7a at h
 split at h
 .rename_i t rs;simp only[af,aW]at h;obtain⟨_,l,al,_⟩:=h;obtain⟨ps,rfl,k⟩:=ad7 rs al;rw[aJ]at l;exact⟨t.cps.toList,ps,by (show _=D.tup [.str (S t.cps.toList),_];rw[a1b]),l,λp hp=>(k p hp).1,λp hp=>(k p hp).2⟩
 .cases h
def ik:SF:=jt (o7 n8 (jr 5)) 3
theorem aqi{d:D}(p:Deep 13 d)(h:a7a d=false):ik [d] []=.ex "NoBook" []:=by
 unfold ik;rw[du];show toR (o7 n8 (jr 5) [some d,none,none] [])=_;unfold o7;have e:=ad3 p;rw[h]at e;exact ah toR (avh (ai (ifT (a0z (iy (jo (bh rfl) (e _)) (fj _)))) (ah2 (cns ckk nlo) (by simp))))
theorem alk{tg:List Nat}{ps:List (Str×Sh)}(p:Deep 13 (bdD tg ps))(h:a7a (bdD tg ps)=true)(k:Bok tg ps):ik [bdD tg ps] []=if 10<wB ps then .ex "TooHeavy" [] else .ok (bdD tg ps) []:=by
 unfold ik;rw[du];show toR (o7 n8 (jr 5) [some (bdD tg ps),none,none] [])=_;unfold o7;have e:=ad3 p;rw[h]at e;refine eti (um (iy (jo (bh rfl) (e _)) (fj _))) ?_;refine etr (rm (ae7 (bh rfl) rfl)) ?_;have z:sA a71 (aj (sZ (mj (sIt (sV 2)) (tN 2) (p7 n8 (jr 5)) [])) aq) [some (bdD tg ps),some (.str (S tg)),some (.tup (ps.map rdD))] []=.ok (bz (wB ps)) []:=by
  refine jo (a:=.rol ((ps.map λp=>wt p.2).map bz)) ?_ (a89 _ _);refine a4x ?_ (g8 λ_ _=>dh _) (by simp)
  rw[cQ];refine qj rdD (λp=>bz (wt p.2)) ps (a75 (bh rfl) (ah6 _ _)) (bx (by have:=k.few;omega)) λq hq=>?_
  have dq:Deep 10 (sd q.2):=by
   have r:=(((p.2 _ rfl).2 (.tup (ps.map rdD)) (by simp)).2 _ rfl).2 (rdD q) (fq hq)
   exact(r.2 _ rfl).2 (sd q.2) (by simp)
  have:=aa2 (n:=5) (k.sk q hq) (k.sh q hq) dq (by omega)
  show p7 n8 (jr 5) [some (.str q.1),some (sd q.2)] []=_;exact jo (bh rfl) (this _)
 have gt:sT (s2 gGt (sA a71 (aj (sZ (mj (sIt (sV 2)) (tN 2) (p7 n8 (jr 5)) [])) aq)) (sI 10)) [some (bdD tg ps),some (.str (S tg)),some (.tup (ps.map rdD))] []=.ok (decide (10<wB ps)) []:=by
  refine t2s z ckk ?_;show R.ok (D.bl (decide ((10:Int)<(wB ps:Nat)))) _=_
  congr 2
  exact cG.mpr (by omega)
 by_cases w:10<wB ps
 .rw[ay w]at gt;rw[av w];exact ah toR (avh (ai (ifT gt) (ah2 (cns ckk nlo) (by simp))))
 .rw[ar w]at gt;rw[aO w];refine etr (ifN gt) ?_;exact ah toR (fu (bh rfl))
def jz:SF:=jt (za ik) 4
theorem ad8{a b c:D}{h:Hd}:MI.dj [a,b,c] h=.ok (.tup [a,b,c]) h:=by unfold MI.dj;rw[av (bx (by simp))]
abbrev kd(a b:Bool):D:=.tup [.bl a,.bl b,.bl true,.bl false]
theorem aht{d:D}(c:MI.clo 0 d){n:Str}{a b:Bool}(e:ik [d] []=.ex n [])(hc:yw n=true)(h1:a5f n=some a)(h2:a2e n=some b)(h3:a06 n=some true)(h4:jq n=some false) :
  Pu jz 1 [d] (.tup [.non,kd a b]):=by
 have ck:MI.clo 0 (.tup [.non,kd a b]):=jc (bj uw (bj (jc (bj (uv _) (bj (uv _) (bj (uv _) (bj (uv _) dz))))) dz));refine Pu.of rfl (K20.ar1 c) (r:=.ok (.tup [.non,kd a b]) []) ?_ (km ck (by simp)) ck
 unfold jz;rw[du];show toR (za ik [some d,none,none,none] [])=_;unfold za;refine etr (j9 ckk) ?_;refine etr (j9 ckk) ?_;refine etr (rm (avj (ays ((azx (qof (a09 (bh rfl) rfl))).trans (aq1 rfl (K20.ar1 c) e))) hc (τ2:=[some d,some .non,some (kd a b),some (.exc n)]) (h2:=[]) ?_)) ?_
 .refine ai (j9 (d:=.tup [.bl a,.bl b,.bl true]) (a2x (al3 rfl h1) (al3 rfl h2) (al3 rfl h3) ad8)) ?_;unfold j5;rw[jb (bh (i:=2) rfl) (jo (al3 rfl h4) a3w) (PAP.zx (by simp))]
  rfl
 .exact ah toR (fu (lq (bh rfl) (bh rfl) a05))
theorem aqj{d:D}(c:MI.clo 0 d)(e:ik [d] []=.ok d []):Pu jz 1 [d] (.tup [d,.non]):=by
 have ck:MI.clo 0 (.tup [d,.non]):=jc (bj c (bj uw dz));refine Pu.of rfl (K20.ar1 c) (r:=.ok (.tup [d,.non]) []) ?_ (km ck (by simp)) ck
 unfold jz;rw[du];show toR (za ik [some d,none,none,none] [])=_;unfold za;have pu:Pu ik 1 [d] d:=Pu.of rfl (K20.ar1 c) e (km c (by simp)) c
 refine etr (j9 ckk) ?_;refine etr (j9 ckk) ?_;refine etr (rm (avi (τ1:=[some d,some d,some .non,none]) (h1:=[]) ?_)) ?_
 .unfold j5;rw[(azx (qof (a09 (bh rfl) rfl))).trans (aq2 (K20.ar1 c) e pu)];rfl
 .exact ah toR (fu (lq (bh rfl) (bh rfl) a05))
theorem alm:∀(n:Nat) (d:D),pur n d=true->eqD d d=true:=by
 intro n
 induction n with
 |zero=>intro d h;cases d<;>first|(simp[eqD];done)|(cases h;done)
 |succ n ih =>
  intro d h
  cases d with
  |tup xs =>
   simp only[pur,aM]at h;simp only[eqD]
   induction xs with
   |nil=>rfl
   |cons x xs ih2 =>
    simp only[a97,af];exact⟨ih x (h x (aY ..)),ih2 λy hy=>h y (aQ _ hy)⟩
  |_=>first|(simp[eqD];done)|(cases h;done)
theorem ahu{tg:List Nat}{ps:List (Str×Sh)}(k:Bok tg ps):pur 60 (bdD tg ps)=true:=by
 have:(ps.map rdD).all (pur 58)=true:=by
  rw[aM]
  intro x hx
  obtain⟨r,hr,rfl⟩:=bD.mp hx;show((true && (pur 57 (sd r.2) && true))=true);rw[a98 (by omega) (DRW.aa1 (k.sh r hr))]
  rfl
 show(true && ((ps.map rdD).all (pur 58) && true))=true;rw[this];rfl
def iu:SF:=jt (zu j4 jz (DRW.bc 5)) 4
theorem aln{d:D}(p:Deep 13 d)(rp:∃x,∀h,ady [d] h=.ok (.str x) h):Pu iu 1 [d] (.bl true):=by
 obtain⟨x,rp⟩:=rp;refine K20.a1y rfl (K20.ar1 p.pln.clo) (h':=[]) ?_;unfold iu;rw[du];show toR (zu j4 jz (DRW.bc 5) [some d,none,none,none] [])=_;unfold zu;refine ets (jo (bh rfl) (rp _)) ?_;have ib:=aec p;have same:hNe (.str x) (.str x) []=.ok (.bl false) []:=by
  show(if _ then R.ok (D.bl (!(x == x))) [] else .no)=_
  rw[av ⟨rfl,rfl⟩,cV];rfl
 cases hb:a7a d with
 |false =>
  rw[hb]at ib;have sa:=aht (a:=true) (b:=false) p.pln.clo (aqi p hb) (by decide +kernel) (by decide +kernel) (by decide +kernel) (by decide +kernel) (by decide +kernel)
  refine etr (rm (ae7 (jo (bh rfl) (sa _)) rfl)) ?_;refine eti (t2s (jo (bh rfl) (rp _)) (bh rfl) same) ?_;exact ah toR (jd (ifr (a0z (iy (jo (bh rfl) (ib _)) (fj _))) (jb (bh rfl) (EVX.azy ckk ckk ckk ckk SHD.ayv) rfl)))
 |true =>
  rw[hb]at ib;obtain⟨tg,ps,rfl,k⟩:=awe hb;have run:=alk p hb k;have z:∀(a b c:Option D),sA a71 (aj (sZ (mj (sIt (s2 gIx (sV 0) (sI 1))) t1 (xf j4 jz (DRW.bc 5)) [])) aq) [some (bdD tg ps),a,b,c] []=.ok (bz (wB ps)) []:=λa b c=>by
   refine jo (a:=.rol ((ps.map λp=>wt p.2).map bz)) ?_ (a89 _ _);refine a4x ?_ (g8 λ_ _=>dh _) (by simp)
   rw[cQ];refine qj rdD (λp=>bz (wt p.2)) ps (a75 (nj rfl ix1) (ah6 _ _)) (bx (by have:=k.few;omega)) λq hq=>?_
   rw[v5];exact jo (nj rfl ix1) (DRW.a3x 5 5 (by omega) q.2 (k.sh q hq) _)
  have gt:∀a b c:Option D,sT (s2 gGt (sA a71 (aj (sZ (mj (sIt (s2 gIx (sV 0) (sI 1))) t1 (xf j4 jz (DRW.bc 5)) [])) aq)) (sI 10)) [some (bdD tg ps),a,b,c] []=.ok (decide (10<wB ps)) []:=λa b c=>by
   refine t2s (z a b c) ckk ?_;show R.ok (D.bl (decide ((10:Int)<(wB ps:Nat)))) _=_
   congr 2
   exact cG.mpr (by omega)
  by_cases w:10<wB ps
  .rw[av w]at run;rw[ay w]at gt;have sa:=aht (a:=false) (b:=true) p.pln.clo run (by decide +kernel) (by decide +kernel) (by decide +kernel) (by decide +kernel) (by decide +kernel)
   refine etr (rm (ae7 (jo (bh rfl) (sa _)) rfl)) ?_;refine eti (t2s (jo (bh rfl) (rp _)) (bh rfl) same) ?_;refine eti (um (iy (jo (bh rfl) (ib _)) (fj _))) ?_;exact ah toR (jd (ifr (gt _ _ _) (jb (bh rfl) (EVX.azy ckk ckk ckk ckk SHD.ayv) rfl)))
  .rw[aO w]at run;rw[ar w]at gt;have sa:=aqj p.pln.clo run;refine etr (rm (ae7 (jo (bh rfl) (sa _)) rfl)) ?_;refine eti (t2s (jo (bh rfl) (rp _)) (bh rfl) same) ?_;refine eti (um (iy (jo (bh rfl) (ib _)) (fj _))) ?_;refine eti (gt _ _ _) ?_;have q:hEq (bdD tg ps) (bdD tg ps) []=.ok (.bl true) []:=by
    unfold hEq;rw[av ⟨ahu k,ahu k⟩,alm 60 _ (ahu k)]
   exact ah toR (fu (a1c (nj rfl rfl) (jb (bh rfl) (bh rfl) q)))
end K16
namespace K16
open L2 MI AT HND EVX
open K20 (a4m vo a2k isInt a4b isStr Deep)
mutual
def thB(b:Bool):D->Bool
 |.non=>true
 |.bl _=>true
 |.int i=>decide (-100<i) && decide (i<100)
 |.str x=>decide (x.cps.toList.length<=300) && x.cps.toList.all (λc=>decide (c<127))
 |.tup xs=>decide (xs.length<=100) && thL b xs
 |.rol xs => !b && (decide (xs.length<=100) && thL b xs)
 |.rod [] []=>b
 |_=>false
def thL(b:Bool):List D->Bool
 |[]=>true
 |x::xs=>thB b x && thL b xs
end
mutual
def sz:D->Nat
 |.str x=>10*x.cps.toList.length+2
 |.tup xs=>szL xs+3
 |.rol xs=>szL xs+3
 |_=>5
def szL:List D->Nat
 |[]=>0
 |x::xs=>sz x+2+szL xs
end
mutual
def dp:D->Nat
 |.tup xs=>dpL xs+1
 |.rol xs=>dpL xs+1
 |.rod _ _=>1
 |_=>0
def dpL:List D->Nat
 |[]=>0
 |x::xs=>max (dp x) (dpL xs)
end
theorem wy{b:Bool}:∀{xs:List D},thL b xs=true↔∀x∈xs,thB b x=true
 |[]=>by simp[thL]
 |x::xs=>by rw[thL,af,wy];simp
theorem ahv{b:Bool}:∀(n:Nat) (d:D),dp d<=n->thB b d=true->PAP.Pln d:=by
 intro n
 induction n with
 |zero =>
  intro d hd h
  cases d<;>first|trivial|(simp[thB]at h;done)|skip
  all_goals first|(simp only[thB,af,aW]at h;exact bE h.1 (by omega))|(exfalso;simp only[dp]at hd;omega)
 |succ n ih =>
  have inn:∀xs:List D,dpL xs<=n->thL b xs=true->clos 0 xs:=λxs=>by
   induction xs with
   |nil=>exact λ_ _=>dz
   |cons x xs ihx =>
    intro hd h
    rw[dpL]at hd;rw[thL,af]at h;exact bj (ih x (by omega) h.1).clo (ihx (by omega) h.2)
  intro d hd h
  cases d<;>first|trivial|(simp[thB]at h;done)|skip
  .rename_i x;simp only[thB,af,aW]at h;exact bE h.1 (by omega)
  .rename_i xs;rw[dp]at hd;simp only[thB,af]at h;exact inn xs (by omega) h.2
  .rename_i xs;rw[dp]at hd;simp only[thB,af]at h;exact inn xs (by omega) h.2.2
  .rename_i ks xs
   cases ks with
   |nil =>
    cases xs with
    |nil=>exact(dz:clos 0 [])
    |cons _ _=>simp[thB]at h
   |cons _ _=>simp[thB]at h
theorem ahw{b:Bool}:∀(n:Nat) {d:D},thB b d=true->Deep n d
 |0,d,h=>ahv _ d (a9 _) h
 |n+1,d,h=>⟨ahv _ d (a9 _) h,λws e=>by
   subst e;simp only[thB,af,aW]at h;exact⟨by omega,λx hx=>ahw n (wy.mp h.2 x hx)⟩⟩
structure Rp (b:Bool) (d:D) (q:PyData):Prop where
 py:toPy d=some q
 sh:q.showable=true
 dp:q.depth<=K16.dp d
 ln:q.shown.length<=sz d
 nl:b=true->noL d=true
 nd:b=false->q.hasDict=false
structure RpL (b:Bool) (xs:List D) (qs:List PyData):Prop where
 py:aax xs=some qs
 sh:PyData.showableAll qs=true
 dp:PyData.depthAll qs<=dpL xs
 ln:piled (PyData.shownAll qs)<=szL xs
 nl:b=true->aqz xs=true
 nd:b=false->PyData.hasDictAll qs=false
theorem ahx(i:Int)(h : -100<i)(h':i<100):PyData.showable (.int i)=true/\(PyData.shown (.int i)).length<=5:=by
 have:∀n:Nat,n<100->(PyData.showable (.int (n:Int))=true/\(PyData.shown (.int (n:Int))).length<=5)/\(PyData.showable (.int (-(n:Int)))=true/\(PyData.shown (.int (-(n:Int)))).length<=5):=by decide +kernel
 rcases Int.lt_or_le i 0 with l|l
 .have:=(this (-i).toNat (by omega)).2
  rwa[show -(((-i).toNat:Nat):Int)=i by omega]at this
 .have:=(this i.toNat (by omega)).1
  rwa[show((i.toNat:Nat):Int)=i by omega]at this
mutual
theorem b04{b:Bool}:∀d:D,thB b d=true->∃q,Rp b d q
 |.non,_=>⟨.none,rfl,rfl,a9 _,by decide +kernel,λ_=>rfl,λ_=>rfl⟩
 |.bl c,_=>⟨.bool c,rfl,rfl,a9 _,by cases c<;>decide +kernel,λ_=>rfl,λ_=>rfl⟩
 |.int i,h=>by
  simp only[thB,af,aW]at h;have:=ahx i h.1 h.2;exact⟨.int i,rfl,this.1,a9 _,this.2,λ_=>rfl,λ_=>rfl⟩
 |.str x,h=>by
  simp only[thB,af,aW,aM]at h;refine⟨.str x,rfl,rfl,a9 _,?_,λ_=>rfl,λ_=>rfl⟩;have:=StrLaws.reprText_len x (by intro c hc;have:=h.2 c hc;omega)
  have e:x.length=x.cps.toList.length:=by show x.cps.size=_;rw[cR]
  show(reprText x).length<=10*x.cps.toList.length+2;omega
 |.tup xs,h=>by
  simp only[thB,af,aW]at h;obtain⟨qs,r⟩:=az9 xs h.2;refine⟨.tuple qs,by simp only[toPy,r.py,g9],r.sh,?_,?_,λz=>r.nl z,λz=>r.nd z⟩
  .show PyData.depthAll qs+1<=dpL xs+1;have:=r.dp;omega
  .have h2:=a9s (PyData.shownAll qs);have:=r.ln;show(tupleText (PyData.shownAll qs)).length<=szL xs+3;omega
 |.rol xs,h=>by
  simp only[thB,af,aW]at h;obtain⟨qs,r⟩:=az9 xs h.2.2;have bf:b=false:=by simpa using h.1
  refine⟨.list qs,by simp only[toPy,r.py,g9],r.sh,?_,?_,λz=>(by rw[bf]at z;cases z),λz=>r.nd z⟩
  .show PyData.depthAll qs+1<=dpL xs+1;have:=r.dp;omega
  .have h2:=ab6 (PyData.shownAll qs);have:=r.ln;show(listText (PyData.shownAll qs)).length<=szL xs+3;omega
 |.rod [] [],h=>⟨.dict [],rfl,rfl,a9 _,by decide +kernel,λ_=>rfl,λz=>by rw[thB]at h;rw[h]at z;cases z⟩
 |.rod (_::_) _,h=>by simp[thB]at h
 |.rod [] (_::_),h=>by simp[thB]at h
 |.ty _,h=>by simp[thB]at h
 |.ref _,h=>by simp[thB]at h
 |.scr _,h=>by simp[thB]at h
 |.rdT _ _,h=>by simp[thB]at h
 |.exc _,h=>by simp[thB]at h
 |.ins _ _ _,h=>by simp[thB]at h
theorem az9{b:Bool}:∀xs:List D,thL b xs=true->∃qs,RpL b xs qs
 |[],_=>⟨[],rfl,rfl,a9 _,a9 _,λ_=>rfl,λ_=>rfl⟩
 |x::xs,h=>by
  rw[thL,af]at h;obtain⟨q,r⟩:=b04 x h.1;obtain⟨qs,rs⟩:=az9 xs h.2;refine⟨q::qs,by simp only[aax,r.py,rs.py],?_,?_,?_,λz=>?_,λz=>?_⟩
  .show(q.showable && PyData.showableAll qs)=true;rw[r.sh,rs.sh];rfl
  .have:=r.dp;have:=rs.dp
   show max q.depth (PyData.depthAll qs)<=max (dp x) (dpL xs);omega
  .have e:piled (PyData.shownAll (q::qs))=q.shown.length+2+piled (PyData.shownAll qs):=by
    simp[PyData.shownAll,piled]
   have:=r.ln;have:=rs.ln
   rw[e,szL];omega
  .show(noL x && aqz xs)=true;rw[r.nl z,rs.nl z];rfl
  .show(q.hasDict || PyData.hasDictAll qs)=false
   rw[r.nd z,rs.nd z];rfl
end
structure TT (b:Bool) (z p:Nat) (d:D):Prop where
 t:thB b d=true
 s:sz d<=z
 q:dp d<=p
structure TL (b:Bool) (z p n:Nat) (xs:List D):Prop where
 t:thL b xs=true
 s:szL xs<=z
 q:dpL xs<=p
 l:xs.length<=n
section
variable{b:Bool}{z z' p p' n n':Nat}{d:D}{xs ys:List D}
theorem TT.up(h:TT b z p d)(hz:z<=z')(hp:p<=p'):TT b z' p' d:=⟨h.t,bE h.s hz,bE h.q hp⟩
theorem TL.up(h:TL b z p n xs)(hz:z<=z')(hp:p<=p')(hn:n<=n'):TL b z' p' n' xs:=⟨h.t,bE h.s hz,bE h.q hp,bE h.l hn⟩
theorem TL.nil:TL b 0 0 0 []:=⟨rfl,a9 _,a9 _,a9 _⟩
theorem TL.cons(h:TT b z p d)(k:TL b z' p' n xs):TL b (z+2+z') (max p p') (n+1) (d::xs) :=
 ⟨by rw[thL,h.t,k.t];rfl,by have:=h.s;have:=k.s;rw[szL];omega,by have:=h.q;have:=k.q;rw[dpL];omega,by have:=k.l;rw[aL];omega⟩
theorem a3a:∀xs ys:List D,szL (xs++ys)=szL xs+szL ys
 |[],ys=>by rw[bG,szL];omega
 |x::xs,ys=>by rw[dH,szL,szL,a3a xs ys];omega
theorem a3b:∀xs ys:List D,dpL (xs++ys)=max (dpL xs) (dpL ys)
 |[],ys=>by rw[bG,dpL];omega
 |x::xs,ys=>by rw[dH,dpL,dpL,a3b xs ys];omega
theorem TL.app(h:TL b z p n xs)(k:TL b z' p' n' ys):TL b (z+z') (max p p') (n+n') (xs++ys) :=
 ⟨wy.mpr λx hx=>(bb.mp hx).elim (wy.mp h.t x) (wy.mp k.t x),by have:=h.s;have:=k.s;rw[a3a];omega,by have:=h.q;have:=k.q;rw[a3b];omega,by have:=h.l;have:=k.l;rw[ae];omega⟩
theorem TL.tup(h:TL b z p n xs)(hn:n<=100):TT b (z+3) (p+1) (.tup xs) :=
 ⟨by rw[thB,h.t,ay (bE h.l hn)];rfl,by have:=h.s;rw[sz];omega,by have:=h.q;rw[dp];omega⟩
theorem TL.rol(h:TL false z p n xs)(hn:n<=100):TT false (z+3) (p+1) (.rol xs) :=
 ⟨by rw[thB,h.t,ay (bE h.l hn)];rfl,by have:=h.s;rw[sz];omega,by have:=h.q;rw[dp];omega⟩
theorem TL.of:∀{xs:List D},(∀x∈xs,TT b z p x)->TL b (xs.length*(z+2)) p xs.length xs
 |[],_=>⟨rfl,bH _,bH _,a9 _⟩
 |x::xs,h=>by
  have a:=h x (by simp)
  have b:=TL.of (xs:=xs) λy hy=>h y (by simp[hy])
  refine(TL.cons a b).up ?_ (by omega) (by simp)
  rw[aL,dS];omega
theorem TL.at(h:TL b z p n xs)(hx:d∈xs):TT b z p d:=by
 induction xs generalizing z n with
 |nil=>simp at hx
 |cons x xs ih =>
  obtain⟨t,s,q,l⟩:=h;rw[thL,af]at t;rw[szL]at s;rw[dpL]at q
  rcases aZ.mp hx with rfl|hx
  .exact⟨t.1,by omega,by omega⟩
  .exact ih (z:=z) (n:=n) ⟨t.2,by omega,by omega,by rw[aL]at l;omega⟩ hx
theorem TL.putAt(h:TL b z p n xs)(k:TL b z' p' n' ys)(at_:Nat):TL b (z+z') (max p p') (n+n') (xs.take at_++ys++xs.drop (at_+1)):=by
 have sp:xs.take at_++xs.drop at_=xs:=eW ..;have e1:szL (xs.take at_)+szL (xs.drop at_)=szL xs:=by rw[<-a3a,sp]
 have e2:max (dpL (xs.take at_)) (dpL (xs.drop at_))=dpL xs:=by rw[<-a3b,sp]
 have e3:szL (xs.drop (at_+1))<=szL (xs.drop at_)/\dpL (xs.drop (at_+1))<=dpL (xs.drop at_):=by
  rw[<-List.drop_drop]
  cases xs.drop at_ with
  |nil=>exact⟨a9 _,a9 _⟩
  |cons x l=>show szL l<=_/\dpL l<=_;rw[szL,dpL];exact⟨by omega,by omega⟩
 have:=h.s;have:=h.q;have:=h.l;have:=k.s;have:=k.q;have:=k.l
 refine⟨wy.mpr λx hx=>?_,?_,?_,?_⟩
 .rcases bb.mp hx with hx|hx
  .rcases bb.mp hx with hx|hx
   .exact wy.mp h.t x (bW hx)
   .exact wy.mp k.t x hx
  .exact wy.mp h.t x (cO hx)
 .rw[a3a,a3a];omega
 .rw[a3b,a3b];omega
 .rw[ae,ae,aR,b6];omega
theorem TT.str{l:List Nat}(hl:l.length<=300)(hc:∀c∈l,c<127):TT b (10*l.length+2) 0 (.str (S l)) :=
 ⟨by rw[thB,yu,ay hl,bM,aM];exact λc h=>ay (hc c h),by rw[sz,yu];exact a9 _,a9 _⟩
theorem TT.nat(h:n<100):TT b 5 0 (bz n):=⟨by simp only[thB,af,aW];omega,a9 _,a9 _⟩
theorem TT.clo(h:TT b z p d):MI.clo 0 d:=(ahv _ d (a9 _) h.t).clo
theorem TL.clo(h:TL b z p n xs):clos 0 xs:=iz.mpr λx hx=>(h.at hx).clo
theorem TT.right(h:TT b z p d)(hz:z<=16000000)(hp:p<=60):Pu iu 1 [d] (.bl true):=by
 obtain⟨q,r⟩:=b04 d h.t;refine aln (ahw 13 h.t) ⟨q.shown,λhh=>?_⟩;have nl:q.hasDict=true->noL d=true:=λz=>by
  cases b with
  |true=>exact r.nl rfl
  |false=>rw[r.nd rfl]at z;cases z
 have ok:okR d q:=⟨nl,r.sh,by have:=r.dp;have:=h.q;omega,by have:=r.ln;have:=h.s;show _<=16777216;omega⟩
 unfold ady;simp only[r.py];rw[av ok]
end
end K16
namespace K16
open L2 MI AT HND EVX
open K20 (Deep isInt a4b isStr)
open SRC (Src)
open DRW (dw)
noncomputable def anyB(d:D):Bool:=(thB true d || thB false d) && (decide (sz d<=400) && decide (dp d<=6))
def Odd(z p:Nat)(d:D):Prop:=∃b,TT b z p d
theorem abf{d:D}(h:anyB d=true):Odd 400 6 d:=by
 simp only[anyB,af,aW,cC]at h
 rcases h.1 with t|t
 .exact⟨true,t,h.2.1,h.2.2⟩
 .exact⟨false,t,h.2.1,h.2.2⟩
def j7:SF:=jt (a1x SRC.ak) 6
def AR(N:Nat)(r:R D):Prop:=∃d o',r=.ok d [o']/\Odd 400 6 d/\Src o' (N+1)
theorem AR.tr{N:Nat}{x y:Fl}(e:x=y)(h:AR N (toR y)):AR N (toR x):=e ▸ h
theorem alo{N:Nat}{o:O}{xs:List D}{a b c d:Option D}(P:Src o N)(hN:N<=900000000)(x0:0<xs.length)(xl:xs.length<=1000)(al:xs.all anyB=true) :
  AR N (toR (jf (s2 gIx (sV 5) (sA (gm false 2 SRC.ak) (aj (sV 0) (aj (sA kj (aj (sV 5) aq)) aq)))) [some (.ref 0),a,b,c,d,some (.tup xs)] [o])):=by
 obtain⟨r,o',e,rb,P'⟩:=dw (m:=(xs.length:Nat)) P (by omega) (by omega) (by omega)
 have hr:r<xs.length:=by omega
 refine⟨xs[r],o',ah toR (fu (jb (bh rfl) (lq (bh rfl) (jo (bh rfl) (K20.len_T xs _)) (drz e)) (a6q (a8 hr)))),abf (aM.mp al _ (b9 hr)),P'⟩
theorem aqk{o:O}{N:Nat}(P:Src o N)(hN:N<=900000000):AR N (j7 [.ref 0] [o]):=by
 have co:=P.clo;unfold j7;rw[du];show AR N (toR (a1x SRC.ak [some (.ref 0),none,none,none,none,none] [o]));unfold a1x;refine .tr (j9 (by walk_at "x")) ?_
 refine .tr (j9 (by walk_at "x")) ?_
 refine .tr (j9 (by walk_at "x")) ?_
 refine .tr (j9 (by walk_at "x")) ?_
 refine .tr (j9 (by walk_at "x")) ?_
 exact alo P hN (by simp) (by simp) (by decide +kernel)
theorem ahy{o:O}{N:Nat}(P:Src o N)(hN:N<=900000000):∃d o',Dr j7 1 [] o d o'/\Odd 400 6 d/\Src o' (N+1):=by
 obtain⟨d,o',e,od,P'⟩:=aqk P hN;obtain⟨b,t⟩:=od;exact⟨d,o',Dr.of rfl (by simp) P.clo e (km (a5z (bH _) t.clo) (by intro u hu;simp at hu;subst hu;exact a0d (bH _) P'.clo)) t.clo P'.clo,⟨b,t⟩,P'⟩
end K16
namespace K16
open L2 MI AT HND EVX
open K20 (Deep isInt a4b isStr)
open SRC (Src)
open DRW (dw)
open SHD
def SB:Nat->Nat
 |0=>0
 |d+1=>6*SB d+110
theorem lit{b:Bool}{x:Str}(h:(decide (x.cps.toList.length<=300) && x.cps.toList.all (λc=>decide (c<127)))=true):TT b (10*x.cps.toList.length+2) 0 (.str x):=⟨h,a9 _,a9 _⟩
theorem aql{b:Bool}:TT b 32 0 (.str "one"):=(lit (by decide +kernel)).up (by decide +kernel) (a9 _)
theorem alp{b:Bool}:TT b 32 0 (.str "row"):=(lit (by decide +kernel)).up (by decide +kernel) (a9 _)
theorem aqm{b:Bool}:TT b 62 0 (.str "either"):=(lit (by decide +kernel)).up (by decide +kernel) (a9 _)
theorem a7d{b:Bool}:TT b 42 0 (.str "many"):=(lit (by decide +kernel)).up (by decide +kernel) (a9 _)
theorem awf{b:Bool}:TT b 52 0 (.str "times"):=(lit (by decide +kernel)).up (by decide +kernel) (a9 _)
section
variable{b:Bool}{z z' p p':Nat}{x y:D}
theorem TT.two(h:TT b z p x)(k:TT b z' p' y):TT b (z+z'+7) (max p p'+1) (.tup [x,y]):=((TL.cons h (TL.cons k .nil)).tup (by omega)).up (by omega) (by omega)
theorem TT.one(h:TT b z p x):TT b (z+5) (p+1) (.tup [x]):=((TL.cons h .nil).tup (by omega)).up (by omega) (by omega)
end
theorem abh{b:Bool}{tg:List Nat}(ht:∀c∈tg,c<127):∀{d:Nat} {s:Sh},a1d tg d s->TT b (SB d) (2*d) (sd s)
 |0,_,k=>k.elim
 |d+1,s,k=>by
  have many:∀ps:List Sh,ps.length<=6->(∀p∈ps,a1d tg d p)->TT b (6*(SB d+2)+3) (2*d+1) (.tup (sds ps)):=λps l kp=>by
   have:=TL.of (b:=b) (z:=SB d) (p:=2*d) (xs:=sds ps) λx hx=>by
    rw[a0e]at hx;obtain⟨q,hq,rfl⟩:=bD.mp hx;exact abh ht (kp q hq)
   rw[a6g]at this;refine(this.tup (by omega)).up ?_ (a9 _)
   have:=bK (SB d+2) l
   omega
  match s,k with
  |.one l,k =>
   rw[sd];exact(aql.two (TT.str (b:=b) (l:=l) (by have:=k.2.1;omega) λc hc=>ht c (k.2.2 c hc))).up (by have:=k.2.1;rw[SB];omega) (by omega)
  |.row ps,k =>
   rw[sd];exact(alp.two (many ps k.1 k.2)).up (by rw[SB];omega) (by omega)
  |.eit ps,k =>
   rw[sd];exact(aqm.two (many ps k.2.1 k.2.2)).up (by rw[SB];omega) (by omega)
  |.many q,k =>
   rw[sd];exact(a7d.two (abh ht (d:=d) (s:=q) k)).up (by rw[SB];omega) (by omega)
  |.tim q lo hi,k =>
   have h1:=k.1;have h2:=k.2.1;rw[sd];exact((TL.cons awf (TL.cons (abh ht (d:=d) k.2.2) (TL.cons (TT.nat (n:=lo) (by omega)) (TL.cons (TT.nat (n:=hi) (by omega)) .nil)))).tup (by omega)).up (by rw[SB];omega) (by omega)
def BR(N z p:Nat)(r:R D):Prop:=∃x o',(r=.ok x [o']\/∃xs,r=.ok (.ref 1) [o',.lst xs]/\x=.rol xs)/\Odd z p x/\Src o' N
theorem BR.tr{N z p:Nat}{x y:Fl}(e:x=y)(h:BR N z p (toR y)):BR N z p (toR x):=e ▸ h
theorem BR.up{N N' z z' p p':Nat}{r:R D}(h:BR N z p r)(hN:N<=N')(hz:z<=z')(hp:p<=p'):BR N' z' p' r:=by
 obtain⟨x,o',a,⟨b,t⟩,P⟩:=h;exact⟨x,o',a,⟨b,t.up hz hp⟩,P.up hN⟩
theorem BR.to{F:SF}{n N z p:Nat}{o:O}{ds:List D}(h:BR N z p (F (.ref 0::ds) [o]))(hn:ds.length+1=n)(cd:∀x∈ds,MI.clo 0 x)(co:yc 0 o):∃x o',Dr F n ds o x o'/\Odd z p x/\Src o' N:=by
 obtain⟨x,o',a,⟨b,t⟩,P⟩:=h;have c1:∀u∈[o'],yc 1 u:=by intro u hu;simp at hu;subst hu;exact a0d (bH _) P.clo
 rcases a with e|⟨xs,e,rfl⟩
 .exact⟨x,o',Dr.of hn cd co e (km (a5z (bH _) t.clo) c1) t.clo P.clo,⟨b,t⟩,P⟩
 .exact⟨_,o',Dr.of hn cd co e (a7w (i:=1) (a9 _) rfl (a5z (bH _) t.clo) c1) t.clo P.clo,⟨b,t⟩,P⟩
theorem BR.of{N z p:Nat}{b:Bool}{x:D}{o':O}{f:Fl}(e:f=.rt x [o'])(t:TT b z p x)(P:Src o' N):BR N z p (toR f):=⟨x,o',.inl (ah toR e),⟨b,t⟩,P⟩
end K16
namespace K16
open L2 MI AT HND EVX
open K20 (Deep isInt a4b isStr)
open SRC (Src)
open DRW (dw)
open SHD
def au:Nat->SF
 |0=>λ_ _=>.no
 |n+1=>jt (lu j7 (au n) SRC.ak SRC.b8) 6
theorem a2z:sig.length=95:=by decide +kernel
theorem a9u:∀c∈sig,c<127:=by decide +kernel
theorem alq(x:Str)(h:Hd):gIn false (.str x) (.tup [.str "many",.str "times"]) h=.ok (.bl ("many" == x || ("times" == x || false))) h:=rfl
abbrev aqn(n:Nat):SS:=(gh (j5 3 (sA (gm false 2 SRC.ak) (aj (sV 0) (aj (sI 5) aq))))
 (gh (sIf (yp (sT (s2 hEq (sV 3) (sI 0))) (sT (s2 hEq (s2 gIx (sV 1) (sI 0)) (sC (.str "one")))))
 (jf (sA MI.dj (aj (sC (.str "one")) (aj (s2 dm (s2 gIx (sV 1) (sI 1)) (s2 gIx (sA (gm false 0 SRC.b8) aq) (sA (gm false 2 SRC.ak) (aj (sV 0) (aj (sI 95) aq))))) aq))))
 sNx)
 (gh (sIf (sT (s2 hEq (sV 3) (sI 1)))
 (jf (sA MI.dj (aj (sC (.str "many")) (aj (sA MI.dj (aj (sC (.str "many")) (aj (sA MI.dj (aj (sC (.str "many")) (aj (sA MI.dj (aj (sC (.str "many")) (aj (sV 1) aq))) aq))) aq))) aq))))
 sNx)
 (gh (sIf (sT (s2 hEq (sV 3) (sI 2)))
 (jf (sA MI.dj (aj (sC (.str "row")) (aj (sA MI.dj (aj (sV 1) (aj (sV 1) (aj (sA MI.dj (aj (sC (.str "either")) (aj (sA MI.dj (aj (sV 1) (aj (sV 1) aq))) aq))) (aj (sA MI.dj (aj (sC (.str "one")) (aj (sV 2) aq))) (aj (sV 1) (aj (sV 1) aq))))))) aq))))
 sNx)
 (gh (sIf (sT (s2 hEq (sV 3) (sI 3)))
 (jf (mj (sIt (sV 1)) t1 (o8 j7 (au n) SRC.ak SRC.b8) []))
 sNx)
 (jf (sA (gm false 1 j7) (aj (sV 0) aq))))))))
theorem awg(s:Sh):∃x r,sd s=.tup (.str x::r)/\r.length<=3:=by
 cases s<;>(rw[sd];exact⟨_,_,rfl,by simp⟩)
theorem aqo{tg:List Nat}(ht:∀c∈tg,c<127)(t6:tg.length<=6){n d N:Nat}{s:Sh}{o:O}{a4 a5:Option D}{r0:D}(k:a1d tg d s)(P:Src o N)(hN:N<=800000000) :
  BR (N+2) (7*SB d+600) (2*d+6) (toR (aqn n [some (.ref 0),some (sd s),some (.str (S tg)),some r0,a4,a5] [o])):=by
 have co:=P.clo;obtain⟨r,o1,e1,rb,P1⟩:=dw (m:=5) P (by omega) (by decide) (by decide)
 refine .tr (j9 (by walk_at "x")) ?_
 have shT:∀b,TT b (SB d) (2*d) (sd s):=λb=>abh ht k;have tgT:∀b,TT b 62 0 (.str (S tg)):=λb=>(TT.str (by omega) ht).up (by omega) (a9 _)
 obtain⟨x,q,es,ql⟩:=awg s;have head:∀(a b c e:Option D) (h:Hd),s2 gIx (sV 1) (sI 0) [a,some (sd s),b,c,e,a5] h=.ok (.str x) h:=λa b c e h=>by rw[es];exact nj rfl ix0
 by_cases q0:r=0
 .subst q0
  by_cases hx:x = "one"
  .cases s with
   |one l =>
    rw[sd]at es ⊢;have k':1<=l.length/\l.length<=6/\∀c∈l,c∈tg:=by cases d with|zero=>exact k.elim|succ d=>exact k
    obtain⟨r2,o2,e2,rb2,P2⟩:=dw (m:=95) P1 (by omega) (by decide) (by decide)
    have hr2:r2<sig.length:=by rw[a2z];omega
    have c:yp (sT (s2 hEq (sV 3) (sI 0))) (sT (s2 hEq (s2 gIx (sV 1) (sI 0)) (sC (.str "one")))) (List.set [some (.ref 0),some (.tup [.str "one",.str (S l)]),some (.str (S tg)),some r0,a4,a5] 3 (some (bz 0))) [o1]=.ok true [o1] :=
     a4a (tvc rfl (xu rfl)) (t2s (nj rfl ix0) ckk (by rw[ax5];rfl))
    refine .tr (jd (ai (ifT c) (fu (lq ckk (jb (nj rfl ix1) (jb (av4 (SRC.a2g _)) (lq (bh rfl) ckk (drz e2)) (aku (bx (by rw[a2z];omega)) (a8 hr2))) (a2v (bx (by simp;omega)))) a05)))) ?_
    refine BR.of (b:=true) rfl ?_ P2
    .refine(aql.two (TT.str (l:=l++[sig[r2]]) (by simp;omega) ?_)).up (by simp;omega) (by omega)
     intro c hc
     rcases bb.mp hc with hc|hc
     .exact ht c (k'.2.2 c hc)
     .rw[aK.mp hc];exact a9u _ (b9 hr2)
   |_=>(rw[sd]at es;injection es with es;injection es with es _;injection es with es;rw[<-es]at hx;exact absurd hx (by decide +kernel))
  .have c:yp (sT (s2 hEq (sV 3) (sI 0))) (sT (s2 hEq (s2 gIx (sV 1) (sI 0)) (sC (.str "one")))) (List.set [some (.ref 0),some (sd s),some (.str (S tg)),some r0,a4,a5] 3 (some (bz 0))) [o1]=.ok false [o1] :=
    a4a (tvc rfl (xu rfl)) (t2s (head _ _ _ _ _) ckk (by rw[ax5];congr 2;simpa using hx))
   refine .tr (ifN c) ?_;refine .tr (ifN (tvc rfl (wk (by decide)))) ?_
   refine .tr (ifN (tvc rfl (wk (by decide)))) ?_
   refine .tr (ifN (tvc rfl (wk (by decide)))) ?_
   obtain⟨y,o2,e2,⟨b,t⟩,P2⟩:=ahy P1 (by omega)
   exact BR.of (fu (jo (bh rfl) (drz e2))) (t.up (by omega) (by omega)) P2
 refine .tr (ifN (a6p (tvc rfl (wk (by omega))))) ?_
 by_cases q1:r=1
 .subst q1;refine .tr (jd (ifr (tvc rfl (xu rfl)) (lq ckk (lq ckk (lq ckk (lq ckk (bh rfl) a05) a05) a05) a05))) ?_;exact(BR.of (b:=true) rfl ((a7d.two (a7d.two (a7d.two (a7d.two (shT _))))).up (by omega) (by omega)) P1).up (by omega) (a9 _) (a9 _)
 refine .tr (ifN (tvc rfl (wk (by omega)))) ?_
 by_cases q2:r=2
 .subst q2;refine .tr (jd (ifr (tvc rfl (xu rfl)) (by walk_at "x"))) ?_
  refine(BR.of (b:=true) rfl ((alp.two ((TL.cons (shT _) (TL.cons (shT _) (TL.cons (aqm.two ((TL.cons (shT _) (TL.cons (shT _) .nil)).tup (by omega))) (TL.cons (aql.two (tgT _)) (TL.cons (shT _) (TL.cons (shT _) .nil)))))).tup (by omega))).up (by omega) (by omega)) P1).up (by omega) (a9 _) (a9 _)
 refine .tr (ifN (tvc rfl (wk (by omega)))) ?_
 by_cases q3:r=3
 .subst q3;have cr:mj (sIt (sV 1)) t1 (o8 j7 (au n) SRC.ak SRC.b8) [] (List.set [some (.ref 0),some (sd s),some (.str (S tg)),some r0,a4,a5] 3 (some (bz 3))) [o1]=.ok (.ref 1) ([o1]++[.lst ((.str x::q).map λd=>d)]):=by
   refine qj (h:=[o1]) (λd:D=>d) (λd=>d) (.str x::q) (a75 (bh rfl) (by rw[es,dE];rfl)) (bx (by simp;omega)) λp hp=>?_
   rw[v5];exact bh rfl
  refine .tr (jd (ai (ifT (tvc rfl (xu rfl))) (fu cr))) ?_;have t:=shT false;rw[es]at t;have tl:TL false (SB d) (2*d) 4 (.str x::q):=by
   obtain⟨a,b,c⟩:=t;simp only[thB,af]at a;rw[sz]at b;rw[dp]at c;exact⟨a.2,by omega,by omega,by simp;omega⟩
  exact⟨.rol (.str x::q),o1,.inr ⟨_,by rw[dE];rfl,rfl⟩,⟨false,(tl.rol (by omega)).up (by omega) (by omega)⟩,P1.up (by omega)⟩
 refine .tr (ifN (tvc rfl (wk (by omega)))) ?_
 obtain⟨y,o2,e2,⟨b,t⟩,P2⟩:=ahy P1 (by omega)
 exact BR.of (fu (jo (bh rfl) (drz e2))) (t.up (by omega) (by omega)) P2
end K16
namespace K16
open L2 MI AT HND EVX
open K20 (Deep isInt a4b isStr)
open SRC (Src)
open DRW (dw)
open SHD
theorem awh{ps:List Sh}{i:Nat}{h:Hd}(hi:i<ps.length):gIx (.tup (sds ps)) (bz i) h=.ok (sd ps[i]) h:=by
 refine a6q ?_;rw[a0e,bT,a8 hi];rfl
theorem aqp{tg:List Nat}{d:Nat}{ps:List Sh}(hd:d<=20)(k:∀p∈ps,a1d tg d p)(h:Hd):hNe (.tup (sds ps)) (.tup []) h=.ok (.bl (!ps.isEmpty)) h:=by
 have p:pur 60 (.tup (sds ps))=true:=by
  show(sds ps).all (pur 59)=true;rw[aM]
  intro x hx
  exact a98 (by omega) (aM.mp (DRW.a88 k) x hx)
 unfold hNe;rw[av ⟨p,rfl⟩]
 cases ps with
 |nil=>rw[sds];rfl
 |cons p ps=>rw[sds];rfl
def SX(d:Nat):Nat:=7*SB d+600
theorem alr{b:Bool}{tg:List Nat}(ht:∀c∈tg,c<127){d i:Nat}{ps:List Sh}{x:D}{hd:Str}{zh:Nat}(kp:∀p∈ps,a1d tg d p)(pl:ps.length<=6)(t:TT b (SX d) (2*d+6) x)(l:TT b zh 0 (.str hd))(hz:zh<=62) :
  TT b (SX (d+1)) (2*(d+1)+6) (.tup [.str hd,.tup ((sds ps).take i++[x]++(sds ps).drop (i+1))]):=by
 have w:=TL.of (b:=b) (z:=SB d) (p:=2*d) (xs:=sds ps) λy hy=>by
  rw[a0e]at hy;obtain⟨q,hq,rfl⟩:=bD.mp hy;exact abh ht (kp q hq)
 rw[a6g]at w;have m:=(w.putAt (TL.cons t .nil) i).tup (by omega)
 refine(l.two m).up ?_ (by omega)
 have:=bK (SB d+2) pl
 unfold SX;rw[SB];omega
abbrev a00(n:Nat):SS:=(gh (sIf (yp (sT (s2 gGt (sV 3) (sI 0))) (yp (sT (s2 (gIn false) (s2 gIx (sV 1) (sI 0)) (sA MI.dj (aj (sC (.str "row")) (aj (sC (.str "either")) aq))))) (sT (s2 hNe (s2 gIx (sV 1) (sI 1)) (sA MI.dj aq)))))
 (gh (j5 4 (sA (gm false 2 SRC.ak) (aj (sV 0) (aj (sA kj (aj (s2 gIx (sV 1) (sI 1)) aq)) aq))))
 (gh (j5 5 (sA (gm false 3 (au n)) (aj (sV 0) (aj (s2 gIx (s2 gIx (sV 1) (sI 1)) (sV 4)) (aj (sV 2) aq)))))
 (jf (sA MI.dj (aj (s2 gIx (sV 1) (sI 0)) (aj (s2 dm (s2 dm (vm (s2 gIx (sV 1) (sI 1)) oN (oS (sV 4))) (sA MI.dj (aj (sV 5) aq))) (vm (s2 gIx (sV 1) (sI 1)) (oS (s2 dm (sV 4) (sI 1))) oN)) aq))))))
 sNx)
 (gh (sIf (yp (sT (s2 gGt (sV 3) (sI 0))) (sT (s2 (gIn false) (s2 gIx (sV 1) (sI 0)) (sA MI.dj (aj (sC (.str "many")) (aj (sC (.str "times")) aq))))))
 (jf (s2 dm (sA MI.dj (aj (s2 gIx (sV 1) (sI 0)) (aj (sA (gm false 3 (au n)) (aj (sV 0) (aj (s2 gIx (sV 1) (sI 1)) (aj (sV 2) aq)))) aq))) (vm (sV 1) (oS (sI 2)) oN)))
 sNx)
 (aqn n)))
theorem abi{tg:List Nat}(ht:∀c∈tg,c<127)(t6:tg.length<=6):∀(n d N:Nat) {s:Sh} {o:O},d<=n->d<=20->a1d tg d s->Src o N->N+10*d<=800000000->
  ∃x o',Dr (au n) 3 [sd s,.str (S tg)] o x o'/\Odd (SX d) (2*d+6) x/\Src o' (N+10*d)
 |n,0,N,s,o,_,_,k,_,_=>k.elim
 |0,d+1,N,s,o,h,_,_,_,_=>absurd h (by omega)
 |n+1,d+1,N,s,o,h,h20,k,P,hN=>by
  refine BR.to (F:=au (n+1)) ?_ rfl (by simp[a2n,cu]) P.clo
  have co:=P.clo;show BR (N+10*(d+1)) (SX (d+1)) (2*(d+1)+6) (jt (lu j7 (au n) SRC.ak SRC.b8) 6 [.ref 0,sd s,.str (S tg)] [o]);rw[du];show BR (N+10*(d+1)) (SX (d+1)) (2*(d+1)+6) (toR (lu j7 (au n) SRC.ak SRC.b8 [some (.ref 0),some (sd s),some (.str (S tg)),none,none,none] [o]));unfold lu;obtain⟨r,o1,e1,rb,P1⟩:=dw (m:=6) P (by omega) (by decide) (by decide)
  refine .tr (j9 (by walk_at "x")) ?_
  have leaf:BR (N+10*(d+1)) (SX (d+1)) (2*(d+1)+6) (toR (aqn n [some (.ref 0),some (sd s),some (.str (S tg)),some (bz r),none,none] [o1])) :=
   (aqo ht t6 k P1 (by omega)).up (by omega) (a9 _) (a9 _)
  by_cases r0:r=0
  .have no:sT (s2 gGt (sV 3) (sI 0)) (List.set [some (.ref 0),some (sd s),some (.str (S tg)),none,none,none] 3 (some (bz r))) [o1]=.ok false [o1]:=tvc rfl (acu (by omega))
   refine .tr (ifN (a6p no)) ?_;refine .tr (ifN (a6p no)) ?_;exact leaf
  .have yes:sT (s2 gGt (sV 3) (sI 0)) (List.set [some (.ref 0),some (sd s),some (.str (S tg)),none,none,none] 3 (some (bz r))) [o1]=.ok true [o1]:=tvc rfl (acs (by omega))
   have inn:∀(x:Str) (q:List D),sd s=.tup (.str x::q)->sT (s2 (gIn false) (s2 gIx (sV 1) (sI 0)) (sA MI.dj (aj (sC (.str "row")) (aj (sC (.str "either")) aq)))) (List.set [some (.ref 0),some (sd s),some (.str (S tg)),none,none,none] 3 (some (bz r))) [o1]=.ok ("row" == x || ("either" == x || false)) [o1]:=λx q e=>by
    rw[e];exact t2s (nj rfl ix0) (lq ckk ckk a05) (DRW.a4o _ _)
   have inn2:∀(x:Str) (q:List D),sd s=.tup (.str x::q)->sT (s2 (gIn false) (s2 gIx (sV 1) (sI 0)) (sA MI.dj (aj (sC (.str "many")) (aj (sC (.str "times")) aq)))) (List.set [some (.ref 0),some (sd s),some (.str (S tg)),none,none,none] 3 (some (bz r))) [o1]=.ok ("many" == x || ("times" == x || false)) [o1]:=λx q e=>by
    rw[e];exact t2s (nj rfl ix0) (lq ckk ckk a05) (alq _ _)
   have off:∀(x:Str) (q:List D),sd s=.tup (.str x::q)->("many" == x || ("times" == x || false))=false->yp (sT (s2 gGt (sV 3) (sI 0))) (yp (sT (s2 (gIn false) (s2 gIx (sV 1) (sI 0)) (sA MI.dj (aj (sC (.str "row")) (aj (sC (.str "either")) aq))))) (sT (s2 hNe (s2 gIx (sV 1) (sI 1)) (sA MI.dj aq)))) (List.set [some (.ref 0),some (sd s),some (.str (S tg)),none,none,none] 3 (some (bz r))) [o1]=.ok false [o1]->
     BR (N+10*(d+1)) (SX (d+1)) (2*(d+1)+6) (toR (a00 n (List.set [some (.ref 0),some (sd s),some (.str (S tg)),none,none,none] 3 (some (bz r))) [o1])):=λx q e f c=>by
    have c2:=inn2 x q e;rw[f]at c2;refine .tr (ifN c) ?_;refine .tr (ifN (a4a yes c2)) ?_;exact leaf
   have on:∀(hd:Str) (zh:Nat) (ps:List Sh),(∀b,TT b zh 0 (.str hd))->zh<=62->sd s=.tup [.str hd,.tup (sds ps)]->(∀p∈ps,a1d tg d p)->ps.length<=6->(("row" : Str) == hd || (("either" : Str) == hd || false))=true->(("many" : Str) == hd || (("times" : Str) == hd || false))=false->
     BR (N+10*(d+1)) (SX (d+1)) (2*(d+1)+6) (toR (a00 n (List.set [some (.ref 0),some (sd s),some (.str (S tg)),none,none,none] 3 (some (bz r))) [o1])):=λhd zh ps lt hz es kp pl f1 f2=>by
    have c1:=inn hd _ es;rw[f1]at c1;have ne:sT (s2 hNe (s2 gIx (sV 1) (sI 1)) (sA MI.dj aq)) (List.set [some (.ref 0),some (sd s),some (.str (S tg)),none,none,none] 3 (some (bz r))) [o1]=.ok (!ps.isEmpty) [o1]:=by
     rw[es];exact t2s (nj rfl ix1) (aoo nlo PAP.a5g) (aqp (by omega) kp _)
    cases hp:ps.isEmpty with
    |true =>
     rw[hp]at ne;exact off hd _ es f2 (a4a yes (a4a c1 ne))
    |false =>
     rw[hp]at ne;have p0:0<ps.length:=by cases ps with|nil=>cases hp|cons _ _=>simp
     obtain⟨i,o2,e2,ib,P2⟩:=dw (m:=(ps.length:Nat)) P1 (by omega) (by omega) (by omega)
     have hi:i<ps.length:=by omega
     obtain⟨x,o3,e3,⟨b,t⟩,P3⟩:=abi ht t6 n d (N+1+1) (by omega) (by omega) (kp ps[i] (b9 hi)) P2 (by omega)
     have cx:=t.clo;have g1:∀(a4 a5:Option D) (h:Hd),s2 gIx (sV 1) (sI 1) [some (.ref 0),some (.tup [.str hd,.tup (sds ps)]),some (.str (S tg)),some (bz r),a4,a5] h=.ok (.tup (sds ps)) h:=λa4 a5 h=>nj rfl ix1;have run:(gh (j5 4 (sA (gm false 2 SRC.ak) (aj (sV 0) (aj (sA kj (aj (s2 gIx (sV 1) (sI 1)) aq)) aq))))
 (gh (j5 5 (sA (gm false 3 (au n)) (aj (sV 0) (aj (s2 gIx (s2 gIx (sV 1) (sI 1)) (sV 4)) (aj (sV 2) aq)))))
 (jf (sA MI.dj (aj (s2 gIx (sV 1) (sI 0)) (aj (s2 dm (s2 dm (vm (s2 gIx (sV 1) (sI 1)) oN (oS (sV 4))) (sA MI.dj (aj (sV 5) aq))) (vm (s2 gIx (sV 1) (sI 1)) (oS (s2 dm (sV 4) (sI 1))) oN)) aq)))))) [some (.ref 0),some (.tup [.str hd,.tup (sds ps)]),some (.str (S tg)),some (bz r),none,none] [o1]=.rt (.tup [.str hd,.tup ((sds ps).take i++[x]++(sds ps).drop (i+1))]) [o3]:=by
      have sl:=a6g ps;refine ai (j9 (lq (bh rfl) (jo (g1 _ _ _) (by rw[K20.len_T,sl])) (drz e2))) ?_
      refine ai (j9 (a2x (bh rfl) (jb (g1 _ _ _) (bh rfl) (awh hi)) (bh rfl) (drz e3))) ?_;refine fu (lq (nj rfl ix0) (jb (jb (PAP.a3d (g1 _ _ _) onn (PAP.a3c (bh rfl)) (PAP.acy _ _ _)) (jo (bh rfl) a3w) (PAP.zx (by simp;omega))) (PAP.a3d (g1 _ _ _) (PAP.a3c (nj rfl (DRW.aeg (b:=1)))) onn (PAP.yo _ _ _)) (PAP.zx (by simp;omega))) a05)
     rw[es]at yes c1 ne ⊢;refine .tr (jd (ai (ifT (a4a yes (a4a c1 ne))) run)) ?_;exact BR.of rfl (alr ht kp pl t (lt b) hz) (P3.up (by omega))
   have two:∀(hd:Str) (zh:Nat) (q:Sh) (rs:List D) (zr:Nat),(∀b,TT b zh 0 (.str hd))->zh<=62->sd s=.tup (.str hd::sd q::rs)->a1d tg d q->(∀b,TL b zr 0 2 rs)->zr<=20->(("row" : Str) == hd || (("either" : Str) == hd || false))=false->(("many" : Str) == hd || (("times" : Str) == hd || false))=true->
     BR (N+10*(d+1)) (SX (d+1)) (2*(d+1)+6) (toR (a00 n (List.set [some (.ref 0),some (sd s),some (.str (S tg)),none,none,none] 3 (some (bz r))) [o1])):=λhd zh q rs zr lt hz es kq rt hr f1 f2=>by
    have c1:=inn hd _ es;have c2:=inn2 hd _ es;rw[f1]at c1;rw[f2]at c2;obtain⟨x,o3,e3,⟨b,t⟩,P3⟩:=abi ht t6 n d (N+1) (by omega) (by omega) kq P1 (by omega)
    have cx:=t.clo;rw[es]at yes c1 c2 ⊢;refine .tr (ifN (a4a yes (a6p c1))) ?_;refine .tr (jd (ifr (a4a yes c2) (jb (lq (nj rfl ix0) (a2x (bh rfl) (nj rfl ix1) (bh rfl) (drz e3)) a05) (PAP.a3d (bh rfl) (PAP.a3c ckk) onn (PAP.yo _ 2 _)) (PAP.zx (by have:=(rt b).l;simp;omega))))) ?_
    refine(BR.of (b:=b) rfl ?_ P3).up (by omega) (a9 _) (a9 _)
    refine(((TL.cons (lt b) (TL.cons t .nil)).app (rt b)).tup (by omega)).up ?_ (by omega)
    unfold SX;rw[SB];omega
   cases s with
   |one l =>
    have es:sd (.one l)=.tup [.str "one",.str (S l)]:=by rw[sd]
    have c1:=inn _ _ es;exact off _ _ es (by decide +kernel) (a4a yes (a6p c1))
   |row ps=>exact on "row" 32 ps (λ_=>alp) (by omega) (by rw[sd]) k.2 k.1 (by decide +kernel) (by decide +kernel)
   |eit ps=>exact on "either" 62 ps (λ_=>aqm) (by omega) (by rw[sd]) k.2.2 k.2.1 (by decide +kernel) (by decide +kernel)
   |many q=>exact two "many" 42 q [] 0 (λ_=>a7d) (by omega) (by rw[sd]) k (λ_=>TL.nil.up (a9 _) (a9 _) (by omega)) (by omega) (by decide +kernel) (by decide +kernel)
   |tim q lo hi =>
    have h1:=k.1;have h2:=k.2.1;exact two "times" 52 q [bz lo,bz hi] 14 (λ_=>awf) (by omega) (by rw[sd]) k.2.2 (λ_=>TL.cons (TT.nat (n:=lo) (by omega)) (TL.cons (TT.nat (n:=hi) (by omega)) .nil)) (by omega) (by decide +kernel) (by decide +kernel)
end K16
namespace K16
open L2 MI AT HND EVX
open K20 (Deep isInt a4b isStr)
open SRC (Src)
open DRW (dw)
open SHD
theorem pick{N z p i:Nat}{τ:Sd}{o:O}{xs:List D}(v:τ[i]? = some (some (.tup xs)))(v0:τ[0]? = some (some (.ref 0)))(P:Src o N)(hN:N<=900000000)(x0:0<xs.length)(xl:xs.length<=1000)(al:∀x∈xs,Odd z p x) :
  BR (N+1) z p (toR (jf (s2 gIx (sV i) (sA (gm false 2 SRC.ak) (aj (sV 0) (aj (sA kj (aj (sV i) aq)) aq)))) τ [o])):=by
 obtain⟨r,o',e,rb,P'⟩:=dw (m:=(xs.length:Nat)) P (by omega) (by omega) (by omega)
 have hr:r<xs.length:=by omega
 exact⟨xs[r],o',.inl (ah toR (fu (jb (bh v) (lq (bh v0) (jo (bh v) (K20.len_T xs _)) (drz e)) (a6q (a8 hr))))),al _ (b9 hr),P'⟩
theorem ahz{l:List Nat}(hl:l.length<=40)(hc:∀c∈l,c<127):Odd 500 2 (.str (S l)):=⟨true,(TT.str (by omega) hc).up (by omega) (by omega)⟩
theorem all_nil{Q:D->Prop}:∀x∈([]:List D),Q x:=λx h=>by cases h
theorem all_cons{Q:D->Prop}{a:D}{l:List D}(h:Q a)(k:∀x∈l,Q x):∀x∈a::l,Q x:=λx hx=>by
 rcases aZ.mp hx with rfl|hx
 .exact h
 .exact k x hx
theorem aa3{d:D}(h:anyB d=true):Odd 500 6 d:=let ⟨b,t⟩:=abf h; ⟨b,t.up (by omega) (a9 _)⟩
theorem anl{z z' p p':Nat}{d:D}(h:Odd z p d)(hz:z<=z')(hp:p<=p'):Odd z' p' d:=let ⟨b,t⟩:=h; ⟨b,t.up hz hp⟩
noncomputable def abc:List Nat:=("abcdefgh" : Str).cps.toList
theorem aza:(D.str "abcdefgh")=.str (S abc):=ah D.str (a1b _).symm
theorem als:∀c∈DRW.az,c<127:=by decide +kernel
noncomputable def sg1:D->Bool|.str x=>decide (x.cps.toList.length<=1) && x.cps.toList.all (λc=>decide (c<127))|_=>false
theorem b28{d:D}(h:sg1 d=true):∃l:List Nat,d=.str (S l)/\l.length<=1/\∀c∈l,c<127:=by
 cases d<;>first|(simp[sg1]at h;done)|skip
 rename_i x;simp only[sg1,af,aW,aM]at h;exact⟨x.cps.toList,by rw[a1b],h.1,h.2⟩
abbrev aie(ns:List (List Nat)):D:=.rol (ns.map DRW.nmD)
def di:SF:=jt (qp SRC.ak) 6
theorem ai0{ns:List (List Nat)}{x y:List Nat}{ys:List (List Nat)}(en:ns=y::ys)(hn:∀x∈ns,DRW.Nm x)(kx:DRW.Nm x){o:O}{N:Nat}(P:Src o N)(hN:N<=800000000) :
  ∃d o',Dr di 3 [aie ns,.str (S x)] o d o'/\Odd 500 6 d/\Src o' (N+3):=by
 have cn:MI.clo 0 (aie ns):=vy (DRW.a4p _);refine BR.to (F:=di) ?_ rfl (by intro d hd;simp only[aZ,cE,ff]at hd;rcases hd with rfl|rfl;exact cn;exact cu _) P.clo
 unfold di;rw[du];show BR (N+3) 500 6 (toR (qp SRC.ak [some (.ref 0),some (aie ns),some (.str (S x)),none,none,none] [o]));unfold qp;have xl:=kx.hi;have xc:∀c∈x,c<127:=λc hc=>als c (kx.az c hc);obtain⟨a,o1,e1,ab,P1⟩:=dw (m:=((x.length+1:Nat):Int)) P (by omega) (by omega) (by omega)
 obtain⟨r,o2,e2,rb,P2⟩:=dw (m:=6) P1 (by omega) (by decide) (by decide)
 have sgs:∀d∈([.str "A",.str "1",.str " ",.str "_",.str "z",.str "\n"]:List D),sg1 d=true:=by
  have:([.str "A",.str "1",.str " ",.str "_",.str "z",.str "\n"]:List D).all sg1=true:=by decide +kernel
  exact λd hd=>aM.mp this d hd
 have hr:r<([.str "A",.str "1",.str " ",.str "_",.str "z",.str "\n"]:List D).length:=by show r<6;omega
 obtain⟨g,ge,gl,gc⟩:=b28 (sgs _ (b9 hr));refine .tr (j9 (lq (bh rfl) (jb (jo (bh rfl) (a4z (bx (by omega)))) ckk (DRW.aeg (b:=1))) (drz e1))) ?_
 have d6:sA MI.dj (aj (sC (.str "A")) (aj (sC (.str "1")) (aj (sC (.str " ")) (aj (sC (.str "_")) (aj (sC (.str "z")) (aj (sC (.str "\n")) aq)))))) [some (.ref 0),some (aie ns),some (.str (S x)),some (bz a),none,none] [o1]=.ok (.tup [.str "A",.str "1",.str " ",.str "_",.str "z",.str "\n"]) [o1]:=by
  refine aoo (cns ckk (cns ckk (cns ckk (cns ckk (cns ckk (cns ckk nlo)))))) ?_;unfold MI.dj;rw[av (bx (by simp))]
 refine .tr (j9 (jb d6 (lq (bh rfl) ckk (drz e2)) (a6q (a8 hr)))) ?_;rw[ge];have T:∀(i j:Option D) (h:Hd),vm (sV 2) oN (oS (sV 3)) [some (.ref 0),some (aie ns),some (.str (S x)),some (bz a),i,j] h=.ok (.str (S (x.take a))) h:=λi j h=>PAP.a3d (bh rfl) onn (PAP.a3c (bh rfl)) (akv a (bx (by omega)))
 have F:∀(i j:Option D) (h:Hd),vm (sV 2) (oS (sV 3)) oN [some (.ref 0),some (aie ns),some (.str (S x)),some (bz a),i,j] h=.ok (.str (S (x.drop a))) h:=λi j h=>PAP.a3d (bh rfl) (PAP.a3c (bh rfl)) onn (a74 a (bx (by omega)))
 have ac:abc.length=8:=by decide +kernel
 have cut:∀(i j:Option D) (h:Hd),vm (sC (.str "abcdefgh")) oN (oS (s2 MI.a3h (sI 9) (sA kj (aj (sV 2) aq)))) [some (.ref 0),some (aie ns),some (.str (S x)),some (bz a),i,j] h=.ok (.str (S (abc.take (9-x.length)))) h:=λi j h =>
  PAP.a3d ckk onn (PAP.a3c (jb ckk (jo (bh rfl) (a4z (bx (by omega)))) (avt (a:=9) (b:=x.length) (by omega)))) (by rw[aza];exact akv _ (bx (by rw[ac];omega)))
 have n0:∀(i j:Option D) (h:Hd),s2 gIx (sV 1) (sI 0) [some (.ref 0),some (aie ns),some (.str (S x)),some (bz a),i,j] h=.ok (.str (S y)) h:=λi j h=>nj rfl (by rw[en];exact ayp (j:=0) rfl)
 have one:∀(i j:Option D) (h:Hd),vm (sV 2) oN (oS (sI 1)) [some (.ref 0),some (aie ns),some (.str (S x)),some (bz a),i,j] h=.ok (.str (S (x.take 1))) h:=λi j h=>PAP.a3d (bh rfl) onn (PAP.a3c ckk) (akv 1 (bx (by omega)))
 have tk:(x.take a).length<=8/\(x.drop a).length<=8:=by rw[aR,b6];omega
 have ct:(abc.take (9-x.length)).length<=8:=by rw[aR];omega
 refine .tr (j9 (aoo (cns (jb (jb (T _ _ _) (bh rfl) (a2v (bx (by omega)))) (F _ _ _) (a2v (bx (by simp only[ae];omega)))) (cns ckk (cns (jb (bh rfl) (cut _ _ _) (a2v (bx (by omega)))) (cns ckk (cns (n0 _ _ _) (cns (one _ _ _) nlo)))))) (by unfold MI.dj;rw[av (bx (by simp))]))) ?_
 have c2:=P2.clo;refine .tr (j9 (jb (bh rfl) (aoo (cns (zds (cns (bh rfl) nlo) rfl (bj (cu _) dz) (EVT.m9 c2) (by simp)) (cns (EVT.a0q (EVT.m9 c2)) (cns (jo (bh rfl) a3w) (cns ckk nlo)))) (by unfold MI.dj;rw[av (bx (by simp))])) (PAP.zx (by simp)))) ?_
 have ny:=hn y (by rw[en];simp)
 have S1:∀{l:List Nat},l.length<=40->(∀c∈l,c<127)->Odd 500 6 (.str (S l)):=λh k=>anl (ahz h k) (a9 _) (by omega)
 refine(pick (i:=5) rfl rfl P2 (by omega) (by simp) (by simp) ?_).up (by omega) (a9 _) (a9 _)
 refine all_cons (S1 (by simp only[ae];omega) ?_) (all_cons (aa3 (by decide +kernel)) (all_cons (S1 (by simp only[ae];omega) ?_) (all_cons (aa3 (by decide +kernel)) (all_cons (S1 (by have:=ny.hi;omega) λc hc=>als c (ny.az c hc)) (all_cons (S1 (by rw[aR];omega) λc hc=>xc c (bW hc)) (all_cons ⟨false,((TL.cons (TT.str (l:=x) (by omega) xc) .nil).rol (by omega)).up (by omega) (by omega)⟩ (all_cons (aa3 (by decide +kernel)) (all_cons ⟨false,(TT.str (l:=x) (by omega) xc).one.up (by omega) (by omega)⟩ (all_cons (aa3 (by decide +kernel)) all_nil)))))))))
 .intro c hc
  rcases bb.mp hc with hc|hc
  .rcases bb.mp hc with hc|hc
   .exact xc c (bW hc)
   .exact gc c hc
  .exact xc c (cO hc)
 .intro c hc
  rcases bb.mp hc with hc|hc
  .exact xc c hc
  .have:∀c∈abc,c<127:=by decide +kernel
   exact this c (bW hc)
end K16
namespace K16
open L2 MI AT HND EVX
open K20 (Deep isInt a4b isStr)
open SRC (Src)
open DRW (dw)
open SHD
def j8:SF:=jt (my SRC.ak SRC.b8) 6
abbrev aqq(l:List Nat):List D:=l.map λc=>.str (S [c])
theorem aqr{l:List Nat}(hl:l.length<=1000000)(h:Hd):u5 [.str (S l)] h=.ok (.tup (aqq l)) h:=by
 show(if (S l).length<=LINE then R.ok (D.tup (a04 (S l))) h else R.no)=_
 rw[av (by rw[a4y];exact bx hl)]
 congr 2
theorem ai1{b:Bool}{l:List Nat}(hc:∀c∈l,c<127):TL b (l.length*14) 0 l.length (aqq l):=by
 have:=TL.of (b:=b) (z:=12) (p:=0) (xs:=aqq l) λx hx=>by
  obtain⟨c,hc',rfl⟩:=bD.mp hx;exact TT.str (l:=[c]) (by simp) λd hd=>by rw[aK.mp hd];exact hc c hc'
 rw[aJ]at this;exact this
noncomputable def tabs:List Nat:=("\t\t\t" : Str).cps.toList
theorem awi:(D.str "\t\t\t")=.str (S tabs):=ah D.str (a1b _).symm
theorem abj{tg:List Nat}(ht:∀c∈tg,c<127)(t6:tg.length<=6){o:O}{N:Nat}(P:Src o N)(hN:N<=800000000) :
  ∃d o',Dr j8 2 [.str (S tg)] o d o'/\Odd 500 6 d/\Src o' (N+3):=by
 refine BR.to (F:=j8) ?_ rfl (by intro d hd;rw[aK]at hd;subst hd;exact cu _) P.clo
 unfold j8;rw[du];show BR (N+3) 500 6 (toR (my SRC.ak SRC.b8 [some (.ref 0),some (.str (S tg)),none,none,none,none] [o]));unfold my;have tl:tabs.length=3:=by decide +kernel
 have tc:∀c∈tabs,c<127:=by decide +kernel
 obtain⟨a,o1,e1,ab,P1⟩:=dw (m:=((tg.length+1:Nat):Int)) P (by omega) (by omega) (by omega)
 obtain⟨r,o2,e2,rb,P2⟩:=dw (m:=98) P1 (by omega) (by decide) (by decide)
 refine .tr (j9 (lq (bh rfl) (jb (jo (bh rfl) (a4z (bx (by omega)))) ckk (DRW.aeg (b:=1))) (drz e1))) ?_
 have hr:r<(sig++tabs).length:=by rw[ae,a2z,tl];omega
 have ss:∀{τ:Sd} {h:Hd},s2 dm (sA (gm false 0 SRC.b8) aq) (sC (.str "\t\t\t")) τ h=.ok (.str (S (sig++tabs))) h:=λ{τ h}=>jb (av4 (SRC.a2g _)) ckk (by rw[awi];exact a2v (bx (by rw[a2z,tl];omega)))
 refine .tr (j9 (jb ss (lq (bh rfl) ckk (drz e2)) (aku (bx (by rw[ae,a2z,tl];omega)) (a8 hr)))) ?_
 have gc:(sig++tabs)[r]<127:=by
  rcases bb.mp (b9 hr) with h|h
  .exact a9u _ h
  .exact tc _ h
 generalize (sig++tabs)[r]=g at gc
 have T:∀(k i j:Option D) (h:Hd),vm (sV 1) oN (oS (sV 2)) [some (.ref 0),some (.str (S tg)),some (bz a),k,i,j] h=.ok (.str (S (tg.take a))) h:=λk i j h=>PAP.a3d (bh rfl) onn (PAP.a3c (bh rfl)) (akv a (bx (by omega)))
 have F:∀(k i j:Option D) (h:Hd),vm (sV 1) (oS (sV 2)) oN [some (.ref 0),some (.str (S tg)),some (bz a),k,i,j] h=.ok (.str (S (tg.drop a))) h:=λk i j h=>PAP.a3d (bh rfl) (PAP.a3c (bh rfl)) onn (a74 a (bx (by omega)))
 have F1:∀(k i j:Option D) (h:Hd),vm (sV 1) (oS (s2 dm (sV 2) (sI 1))) oN [some (.ref 0),some (.str (S tg)),some (bz a),k,i,j] h=.ok (.str (S (tg.drop (a+1)))) h:=λk i j h=>PAP.a3d (bh rfl) (PAP.a3c (nj rfl (DRW.aeg (b:=1)))) onn (a74 (a+1) (bx (by omega)))
 have one:∀(k i j:Option D) (h:Hd),vm (sV 1) oN (oS (sI 1)) [some (.ref 0),some (.str (S tg)),some (bz a),k,i,j] h=.ok (.str (S (tg.take 1))) h:=λk i j h=>PAP.a3d (bh rfl) onn (PAP.a3c ckk) (akv 1 (bx (by omega)))
 have k1:(tg.take a).length<=6:=by rw[aR];omega
 have k2:(tg.drop a).length<=6:=by rw[b6];omega
 have k3:(tg.drop (a+1)).length<=6:=by rw[b6];omega
 have k4:(tg.take 1).length<=6:=by rw[aR];omega
 refine .tr (j9 (jb (T _ _ _ _) (F1 _ _ _ _) (a2v (bx (by omega))))) ?_
 refine .tr (j9 (aoo (cns (jb (jb (T _ _ _ _) (bh rfl) (a2v (bx (by simp only[aL,bp];omega)))) (F _ _ _ _) (a2v (bx (by simp only[ae,aL,bp];omega)))) (cns (bh rfl) (cns (jb (bh rfl) (one _ _ _ _) (a2v (bx (by omega)))) (cns ckk (cns ckk (cns (jo (bh rfl) (aqr (by omega) _)) nlo)))))) (by unfold MI.dj;rw[av (bx (by simp))]))) ?_
 have c2:=P2.clo;refine .tr (j9 (jb (bh rfl) (aoo (cns (EVT.yj (bh rfl) rfl (EVT.m9 c2) (by omega)) (cns (EVT.a0q (EVT.m9 c2)) (cns ckk (cns (zds (cns (bh rfl) nlo) rfl (bj (cu _) dz) (EVT.m9 c2) (by simp)) nlo)))) (by unfold MI.dj;rw[av (bx (by simp))])) (PAP.zx (by simp)))) ?_
 have S1:∀{l:List Nat},l.length<=40->(∀c∈l,c<127)->Odd 500 6 (.str (S l)):=λh k=>anl (ahz h k) (a9 _) (by omega)
 refine(pick (i:=5) rfl rfl P2 (by omega) (by simp) (by simp) ?_).up (by omega) (a9 _) (a9 _)
 have sub:∀c,(c∈tg.take a\/c∈tg.drop a\/c∈tg.drop (a+1)\/c∈tg.take 1\/c∈tg\/c=g)->c<127:=λc hc=>by
  rcases hc with h|h|h|h|h|h
  .exact ht c (bW h)
  .exact ht c (cO h)
  .exact ht c (cO h)
  .exact ht c (bW h)
  .exact ht c h
  .rw[h];exact gc
 refine all_cons (S1 (by simp only[ae,aL,bp];omega) λc hc=>sub c (by simp only[bb,aK]at hc;rcases hc with(h|h)|h;exact .inl h;exact .inr (.inr (.inr (.inr (.inr h))));exact .inr (.inl h)))
  (all_cons (S1 (by simp only[ae];omega) λc hc=>sub c (by simp only[bb]at hc;rcases hc with h|h;exact .inl h;exact .inr (.inr (.inl h))))
  (all_cons (S1 (by simp only[ae];omega) λc hc=>sub c (by simp only[bb]at hc;rcases hc with h|h;exact .inr (.inr (.inr (.inr (.inl h))));exact .inr (.inr (.inr (.inl h)))))
  (all_cons (aa3 (by decide +kernel)) (all_cons (aa3 (by decide +kernel))
  (all_cons ⟨false,((ai1 ht).tup (by omega)).up (by omega) (by omega)⟩
  (all_cons ⟨false,((ai1 ht).rol (by omega)).up (by omega) (by omega)⟩ (all_cons (aa3 (by decide +kernel)) (all_cons (aa3 (by decide +kernel))
  (all_cons ⟨false,((TL.cons (TT.str (l:=tg) (by omega) ht) .nil).rol (by omega)).up (by omega) (by omega)⟩ all_nil)))))))))
end K16
namespace K16
open L2 MI AT HND EVX
open K20 (Deep isInt a4b isStr)
open SRC (Src)
open DRW (dw)
open SHD
open DRW (Rule rlD Bk)
theorem aed{i:Nat}{f:SE}{τ:Sd}{h h1:Hd}{d:D}(e:f τ h=.ok d h1):j5 i f τ h=.nx (τ.set i (some d)) h1:=by unfold j5;rw[e];rfl
theorem aqs{f:SE}{τ:Sd}{h h1:Hd}{n:Nat}(e:f τ h=.ok (bz n) h1)(z:n<=LINE):sRg a02 (aj f aq) τ h=.ok ⟨(List.range n).map bz,λ_=>True⟩ h1:=by
 have a:aj f aq τ h=.ok [bz n] h1:=by unfold aj;rw[e];rfl
 have b:=ab3 (f:=λ_ _=>R.ok (bz n) h1) (τ:=τ) (h:=h1) rfl z;have a':aj (λ_ _=>R.ok (bz n) h1) aq τ h1=.ok [bz n] h1:=rfl;unfold sRg at b ⊢;rw[a']at b;rw[a];exact b
theorem TL.take{b:Bool}{z p n:Nat}{xs:List D}(h:TL b z p n xs)(k:Nat):TL b z p n (xs.take k):=by
 have sp:xs.take k++xs.drop k=xs:=eW ..;have e1:szL (xs.take k)+szL (xs.drop k)=szL xs:=by rw[<-a3a,sp]
 have e2:max (dpL (xs.take k)) (dpL (xs.drop k))=dpL xs:=by rw[<-a3b,sp]
 have:=h.s;have:=h.q;have:=h.l
 exact⟨wy.mpr λx hx=>wy.mp h.t x (bW hx),by omega,by omega,by rw[aR];omega⟩
theorem TL.drop{b:Bool}{z p n:Nat}{xs:List D}(h:TL b z p n xs)(k:Nat):TL b z p n (xs.drop k):=by
 have sp:xs.take k++xs.drop k=xs:=eW ..;have e1:szL (xs.take k)+szL (xs.drop k)=szL xs:=by rw[<-a3a,sp]
 have e2:max (dpL (xs.take k)) (dpL (xs.drop k))=dpL xs:=by rw[<-a3b,sp]
 have:=h.s;have:=h.q;have:=h.l
 exact⟨wy.mpr λx hx=>wy.mp h.t x (cO hx),by omega,by omega,by rw[b6];omega⟩
theorem awj{b:Bool}{tg:List Nat}{p:Nat}{rs:List Rule}(ht:∀c∈tg,c<127)(k:Bk tg p rs){r:Rule}(hr:r∈rs):TT b 171139 11 (rlD r):=by
 have n:=k.nm r hr;have a:TT b 82 0 (DRW.nmD r.1):=(TT.str (l:=r.1) (by have:=n.hi;omega) λc hc=>als c (n.az c hc)).up (by have:=n.hi;omega) (a9 _)
 exact(a.two (abh ht (k.sh r hr))).up (by decide) (by decide)
theorem ai2{b:Bool}{tg:List Nat}{p:Nat}{rs:List Rule}(ht:∀c∈tg,c<127)(k:Bk tg p rs):TL b 1026846 11 6 (rs.map rlD):=by
 have w:=TL.of (b:=b) (z:=171139) (p:=11) (xs:=rs.map rlD) λx hx=>by
  obtain⟨r,hr,rfl⟩:=bD.mp hx;exact awj ht k hr
 rw[aJ]at w;have:=k.few;exact w.up (by have:=bK 171141 this;omega) (a9 _) this
theorem aqt{tg:List Nat}{rs:List Rule}(sh:∀r∈rs,a1d tg 5 r.2)(h:Hd):hEq (.tup (rs.map rlD)) (.tup []) h=.ok (.bl rs.isEmpty) h:=by
 unfold hEq;rw[av ⟨DRW.aw2 sh,rfl⟩]
 cases rs<;>rfl
theorem abk{N z p zw pw:Nat}{b:Bool}{ws:List D}{t a4 a5 a6:Option D}{a:Nat}{x:D}{o':O}(w:TL b zw pw 6 ws)(tx:TT b z p x)(P:Src o' N) :
  BR N (zw+z+5) (max pw p+1) (toR (jf (s2 dm (s2 dm (vm (sV 1) oN (oS (sV 3))) (sA MI.dj (aj (sV 7) aq))) (vm (sV 1) (oS (s2 dm (sV 3) (sI 1))) oN)) [some (.ref 0),some (.tup ws),t,some (bz a),a4,a5,a6,some x] [o'])):=by
 have wl:=w.l;refine BR.tr (fu (jb (jb (PAP.a3d (bh rfl) onn (PAP.a3c (bh rfl)) (PAP.acy _ _ _)) (jo (bh rfl) a3w) (PAP.zx (by simp only[aR,aE];omega))) (PAP.a3d (bh rfl) (PAP.a3c (nj rfl (DRW.aeg (b:=1)))) onn (PAP.yo _ _ _)) (PAP.zx (by simp only[ae,aR,aE,b6];omega)))) ?_
 refine BR.of (b:=b) rfl ?_ P;exact(((w.putAt (TL.cons tx .nil) a).tup (by omega)).up (by omega) (by omega))
def jj:SF:=jt (pq di (au 5) SRC.ak) 8
noncomputable def aqu:List D:=[.tup [],.rol [],.tup [.tup [.str "a"]],.non,.tup [.tup [.str "a",.tup [.str "row",.tup []]],.tup [.str "a",.tup [.str "row",.tup []]]]]
theorem ai3:aqu.all anyB=true:=by decide +kernel
theorem azb{x:D}{h:Hd}:aaz (.tup [x]) (.int 2) h=.ok (.tup [x,x]) h:=rfl
noncomputable def abg:List Nat:=("abcdefg" : Str).cps.toList
theorem azc:(D.str "abcdefg")=.str (S abg):=ah D.str (a1b _).symm
theorem abl:abg.length=7:=by decide +kernel
theorem awk:∀c∈abg,c<127:=by decide +kernel
theorem aee{tg:List Nat}(ht:∀c∈tg,c<127)(t6:tg.length<=6){q:Nat}{rs:List Rule}(k:Bk tg q rs){o:O}{N:Nat}(P:Src o N)(hN:N<=700000000) :
  ∃x o',Dr jj 3 [.tup (rs.map rlD),.str (S tg)] o x o'/\Odd 4000000 30 x/\Src o' (N+60):=by
 have crs:MI.clo 0 (.tup (rs.map rlD)):=jc (g8 λr _=>DRW.anf r);refine BR.to (F:=jj) ?_ rfl (by intro d hd;simp only[aZ,cE,ff]at hd;rcases hd with rfl|rfl;exact crs;exact cu _) P.clo
 unfold jj;rw[du];show BR (N+60) 4000000 30 (toR (pq di (au 5) SRC.ak [some (.ref 0),some (.tup (rs.map rlD)),some (.str (S tg)),none,none,none,none,none] [o]));unfold pq;have co:=P.clo;have isn:sT (s2 hEq (sV 1) (sA MI.dj aq)) [some (.ref 0),some (.tup (rs.map rlD)),some (.str (S tg)),none,none,none,none,none] [o]=.ok rs.isEmpty [o]:=t2s (bh rfl) (aoo nlo PAP.a5g) (aqt k.sh _)
 cases hr:rs.isEmpty with
 |true =>
  rw[hr]at isn;obtain⟨r,o1,e1,rb,P1⟩:=dw (m:=5) P (by omega) (by decide) (by decide)
  have h5:r<aqu.length:=by show r<5;omega
  have d5:sA MI.dj (aj (sA MI.dj aq) (aj (sZ (sA MI.ye aq)) (aj (sA MI.dj (aj (sA MI.dj (aj (sC (.str "a")) aq)) aq)) (aj (sC .non) (aj (s2 aaz (sA MI.dj (aj (sA MI.dj (aj (sC (.str "a")) (aj (sA MI.dj (aj (sC (.str "row")) (aj (sA MI.dj aq) aq))) aq))) aq)) (sI 2)) aq))))) [some (.ref 0),some (.tup (rs.map rlD)),some (.str (S tg)),none,none,none,none,none] [o]=.ok (.tup aqu) [o]:=by
   refine aoo (cns (aoo nlo PAP.a5g) (cns (zds nlo rfl dz (EVT.m9 co) (by simp)) (cns (jo (jo ckk a3w) a3w) (cns ckk (cns (jb (jo (lq ckk (lq ckk (aoo nlo PAP.a5g) a05) a05) a3w) ckk azb) nlo))))) ?_
   unfold MI.dj;rw[av (bx (by simp))]
   rfl
  refine .tr (jd (ai (ifT isn) (fu (jb d5 (lq (bh rfl) ckk (drz e1)) (a6q (a8 h5)))))) ?_;obtain⟨b,t⟩:=abf (aM.mp ai3 _ (b9 h5));exact BR.of rfl (t.up (by omega) (by omega)) (P1.up (by omega))
 |false =>
  rw[hr]at isn;have r0:0<rs.length:=by cases rs with|nil=>cases hr|cons _ _=>simp
  have r6:=k.few;refine .tr (ifN isn) ?_;obtain⟨a,o1,e1,ab,P1⟩:=dw (m:=(rs.length:Nat)) P (by omega) (by omega) (by omega)
  obtain⟨s,o2,e2,sb,P2⟩:=dw (m:=10) P1 (by omega) (by decide) (by decide)
  have ha:a<rs.length:=by omega
  have am:rs[a]∈rs:=b9 ha;have ga:∀h:Hd,gIx (.tup (rs.map rlD)) (bz a) h=.ok (rlD rs[a]) h:=λh=>a6q (by rw[bT,a8 ha];rfl)
  refine .tr (j9 (lq (bh rfl) (jo (bh rfl) (by rw[K20.len_T,aJ])) (drz e1))) ?_
  refine .tr (rm (ae7 (jb (bh rfl) (bh rfl) (ga _)) rfl)) ?_;refine .tr (j9 (lq (bh rfl) ckk (drz e2))) ?_
  generalize hR:rs[a]=RR at am
  have nR:=k.nm RR am;have shR:∀b,TT b 171050 10 (sd RR.2):=λb=>(abh ht (k.sh RR am)).up (by decide) (by decide)
  have nmR:∀b,TT b 82 0 (DRW.nmD RR.1):=λb=>(TT.str (l:=RR.1) (by have:=nR.hi;omega) λc hc=>als c (nR.az c hc)).up (by have:=nR.hi;omega) (a9 _)
  have rt:∀b,TL b 1026846 11 6 (rs.map rlD):=λb=>ai2 ht k;show BR _ _ _ (toR (gh _ _ [some (.ref 0),some (.tup (rs.map rlD)),some (.str (S tg)),some (bz a),some (DRW.nmD RR.1),some (sd RR.2),some (bz s),none] [o2]));have c2:=P2.clo;have lt3:∀(m:Nat),sT (s2 gLt (sV 6) (sC (bz m))) [some (.ref 0),some (.tup (rs.map rlD)),some (.str (S tg)),some (bz a),some (DRW.nmD RR.1),some (sd RR.2),some (bz s),none] [o2]=.ok (decide (s<m)) [o2]:=λm=>by
   refine tvc rfl ?_;show R.ok (D.bl (decide ((s:Int)<(m:Nat)))) _=_
   congr 2
   exact cG.mpr (by omega)
  have eqm:∀(m:Nat),sT (s2 hEq (sV 6) (sC (bz m))) [some (.ref 0),some (.tup (rs.map rlD)),some (.str (S tg)),some (bz a),some (DRW.nmD RR.1),some (sd RR.2),some (bz s),none] [o2]=.ok (decide (s=m)) [o2]:=λm=>by
   by_cases q:s=m
   .rw[ay q];exact tvc rfl (xu (by omega))
   .rw[ar q];exact tvc rfl (wk (by omega))
  by_cases s3:s<3
  .obtain⟨x,o3,e3,⟨b,t⟩,P3⟩:=abi ht t6 5 5 (N+1+1) (by omega) (by omega) (k.sh RR am) P2 (by omega)
   have c:=lt3 3;rw[ay s3]at c;refine .tr (rm (ai (ifT c) (aed (lq (bh rfl) (a2x (bh rfl) (bh rfl) (bh rfl) (drz e3)) a05)))) ?_;exact(abk (rt b) ((nmR b).two t) P3).up (by omega) (by decide) (by decide)
  have c3:=lt3 3;rw[ar s3]at c3
  by_cases s6:s<6
  .have c:=lt3 6;rw[ay s6]at c;obtain⟨y,ys,ey⟩:∃y ys,rs.map Prod.fst=y::ys:=by cases rs with|nil=>cases hr|cons r rs=>exact⟨_,_,rfl⟩
   obtain⟨x,o3,e3,⟨b,t⟩,P3⟩:=ai0 ey (λz hz=>by obtain⟨r,hr,rfl⟩:=bD.mp hz;exact k.nm r hr) nR P2 (by omega)
   have nz:∀τ:Sd,sZ (mj (sIt (sV 1)) t1 (o9 di (au 5) SRC.ak) []) (some (.ref 0)::some (.tup (rs.map rlD))::τ) [o2]=.ok (aie (rs.map Prod.fst)) [o2]:=λτ=>by
    have cc:=qj (h:=[o2]) (ix:=[]) (t:=t1) (fe:=o9 di (au 5) SRC.ak) (τ:=some (.ref 0)::some (.tup (rs.map rlD))::τ) (fi:=sIt (sV 1)) rlD (λr:Rule=>DRW.nmD r.1) rs (a75 (bh rfl) (ah6 _ _)) (bx (by omega)) λr hr=>by
     rw[v5];exact nj rfl ix0
    have e:rs.map (λr:Rule=>DRW.nmD r.1)=(rs.map Prod.fst).map DRW.nmD:=by rw[cQ];rfl
    rw[e]at cc;refine a4x cc (g8 λ_ _=>cu _) ?_
    intro u hu
    rw[aK]at hu;subst hu;exact a0d (bH _) c2
   refine .tr (rm (ai (ifF c3) (ai (ifT c) (aed (lq (a2x (bh rfl) (nz _) (bh rfl) (drz e3)) (bh rfl) a05))))) ?_;exact(abk (rt b) (t.two (shR b)) P3).up (by omega) (by decide) (by decide)
  have c6:=lt3 6;rw[ar s6]at c6
  by_cases q6:s=6
  .have c:=eqm 6;rw[ay q6]at c;obtain⟨r,o3,e3,rb,P3⟩:=dw (m:=5) P2 (by omega) (by decide) (by decide)
   have d5:sA MI.dj (aj (sA MI.dj (aj (sV 4) aq)) (aj (sA MI.dj (aj (sV 4) (aj (sV 5) (aj (sI 0) aq)))) (aj (sZ (sA MI.ye (aj (sV 4) (aj (sV 5) aq)))) (aj (sA MI.dj (aj (sV 5) (aj (sV 4) aq))) (aj (sV 4) aq))))) [some (.ref 0),some (.tup (rs.map rlD)),some (.str (S tg)),some (bz a),some (DRW.nmD RR.1),some (sd RR.2),some (bz s),none] [o2]
     = .ok (.tup [.tup [DRW.nmD RR.1],.tup [DRW.nmD RR.1,sd RR.2,.int 0],.rol [DRW.nmD RR.1,sd RR.2],.tup [sd RR.2,DRW.nmD RR.1],DRW.nmD RR.1]) [o2]:=by
    refine aoo (cns (jo (bh rfl) a3w) (cns (a2x (bh rfl) (bh rfl) ckk ad8) (cns (zds (cns (bh rfl) (cns (bh rfl) nlo)) rfl (bj (cu _) (bj (a2n _) dz)) (EVT.m9 c2) (by simp)) (cns (lq (bh rfl) (bh rfl) a05) (cns (bh rfl) nlo))))) ?_
    unfold MI.dj;rw[av (bx (by simp))]
   have od:∀x∈([.tup [DRW.nmD RR.1],.tup [DRW.nmD RR.1,sd RR.2,.int 0],.rol [DRW.nmD RR.1,sd RR.2],.tup [sd RR.2,DRW.nmD RR.1],DRW.nmD RR.1]:List D),Odd 200000 12 x :=
    all_cons ⟨false,(nmR _).one.up (by omega) (by omega)⟩ (all_cons ⟨false,((TL.cons (nmR _) (TL.cons (shR _) (TL.cons (TT.nat (n:=0) (by omega)) .nil))).tup (by omega)).up (by omega) (by omega)⟩
     (all_cons ⟨false,((TL.cons (nmR _) (TL.cons (shR _) .nil)).rol (by omega)).up (by omega) (by omega)⟩ (all_cons ⟨false,((shR _).two (nmR _)).up (by omega) (by omega)⟩ (all_cons ⟨false,(nmR _).up (by omega) (by omega)⟩ all_nil))))
   have l5:([.tup [DRW.nmD RR.1],.tup [DRW.nmD RR.1,sd RR.2,.int 0],.rol [DRW.nmD RR.1,sd RR.2],.tup [sd RR.2,DRW.nmD RR.1],DRW.nmD RR.1]:List D).length=5:=rfl
   generalize ([.tup [DRW.nmD RR.1],.tup [DRW.nmD RR.1,sd RR.2,.int 0],.rol [DRW.nmD RR.1,sd RR.2],.tup [sd RR.2,DRW.nmD RR.1],DRW.nmD RR.1]:List D)=five at d5 od l5
   have r5:r<five.length:=by omega
   obtain⟨b,t⟩:=od _ (b9 r5);refine .tr (rm (ai (ifF c3) (ai (ifF c6) (ai (ifT c) (aed (jb d5 (lq (bh rfl) ckk (drz e3)) (a6q (a8 r5)))))))) ?_;exact(abk (rt b) t P3).up (by omega) (by decide) (by decide)
  have cq6:=eqm 6;rw[ar q6]at cq6
  by_cases q7:s=7
  .have c:=eqm 7;rw[ay q7]at c;obtain⟨r,o3,e3,rb,P3⟩:=dw (m:=2) P2 (by omega) (by decide) (by decide)
   have c3':=P3.clo;have rg:sRg a02 (aj (s2 dm (s2 MI.a3h (sI 7) (sA kj (aj (sV 1) aq))) (sA (gm false 2 SRC.ak) (aj (sV 0) (aj (sI 2) aq)))) aq) [some (.ref 0),some (.tup (rs.map rlD)),some (.str (S tg)),some (bz a),some (DRW.nmD RR.1),some (sd RR.2),some (bz s),none] [o2]=.ok ⟨(List.range (7-rs.length+r)).map bz,λ_=>True⟩ [o3] :=
    aqs (jb (jb ckk (jo (bh rfl) (by rw[K20.len_T,aJ])) (avt (a:=7) (b:=rs.length) (by omega))) (lq (bh rfl) ckk (drz e3)) (DRW.aeg)) (bx (by omega))
   have cc:mj (λ_ h=>R.ok (⟨(List.range (7-rs.length+r)).map bz,λ_=>True⟩:Itm) h) t1 (oh di (au 5) SRC.ak) [] [some (.ref 0),some (.tup (rs.map rlD)),some (.str (S tg)),some (bz a),some (DRW.nmD RR.1),some (sd RR.2),some (bz s),none] [o3]
     = .ok (.ref 1) ([o3]++[.lst ((List.range (7-rs.length+r)).map λj=>.tup [.str (S (List.replicate 8 [abg.getD j 0]).flatten),.tup [.str "row",.tup []]])]):=by
    refine qj (h:=[o3]) bz (λj=>.tup [.str (S (List.replicate 8 [abg.getD j 0]).flatten),.tup [.str "row",.tup []]]) (List.range (7-rs.length+r)) rfl (bx (by simp;omega)) λj hj=>?_
    have hj:=cB.mp hj;have ej:abg[j]? = some (abg.getD j 0):=by
     have:j<abg.length:=by rw[abl];omega
     rw[bF,a8 this];rfl
    rw[v5];exact lq (jb (jb ckk (bh rfl) (by rw[azc];exact aku (bx (by rw[abl];omega)) ej)) ckk (av9 (k:=8) (by omega) (by simp))) (lq ckk (aoo nlo PAP.a5g) a05) a05
   have el:TL true 1064 3 8 ((List.range (7-rs.length+r)).map λj=>(.tup [.str (S (List.replicate 8 [abg.getD j 0]).flatten),.tup [.str "row",.tup []]]:D)):=by
    have w:=TL.of (b:=true) (z:=131) (p:=3) (xs:=(List.range (7-rs.length+r)).map λj=>(.tup [.str (S (List.replicate 8 [abg.getD j 0]).flatten),.tup [.str "row",.tup []]]:D)) λx hx=>by
     obtain⟨j,hj,rfl⟩:=bD.mp hx;have hj:=cB.mp hj;have cj:abg.getD j 0<127:=by
      have:j<abg.length:=by rw[abl];omega
      rw[bF,a8 this];exact awk _ (b9 this)
     refine((TT.str (b:=true) (l:=(List.replicate 8 [abg.getD j 0]).flatten) (by simp) λc hc=>?_).two (alp.two (TL.nil.tup (by omega)))).up (by simp) (by omega)
     obtain⟨l,hl,hc⟩:=eB.mp hc;rw[(fG.mp hl).2,aK]at hc;rw[hc];exact cj
    rw[aJ,c8]at w;exact w.up (by have:=bK 133 (show 7-rs.length+r<=8 by omega);omega) (a9 _) (by omega)
   have z:=EVT.aq5 (f:=mj (sRg a02 (aj (s2 dm (s2 MI.a3h (sI 7) (sA kj (aj (sV 1) aq))) (sA (gm false 2 SRC.ak) (aj (sV 0) (aj (sI 2) aq)))) aq)) t1 (oh di (au 5) SRC.ak) []) (h:=[o2]) (h1:=[o3]) (ai (by unfold mj;rw[rg]) cc) rfl el.clo (EVT.m9 c3')
   have wl:=(rt true).l;have el8:=el.l;refine .tr (jd (ai (ifF c3) (ai (ifF c6) (ai (ifF cq6) (ai (ifT c) (fu (jb (bh rfl) (jo z SHD.a86) (PAP.zx (by omega))))))))) ?_
   exact(BR.of (b:=true) rfl ((((rt true).app el).tup (by omega)).up (by omega) (by omega)) P3).up (by omega) (a9 _) (a9 _)
  have cq7:=eqm 7;rw[ar q7]at cq7
  by_cases q8:s=8
  .have c:=eqm 8;rw[ay q8]at c;have wl:=(rt true).l;refine .tr (jd (ai (ifF c3) (ai (ifF c6) (ai (ifF cq6) (ai (ifF cq7) (ai (ifT c) (fu (jb (jb (PAP.a3d (bh rfl) onn (PAP.a3c (bh rfl)) (PAP.acy _ _ _)) (jo (jb (bh rfl) (bh rfl) (show gIx (.tup (rs.map rlD)) (bz a) [o2]=.ok (rlD RR) [o2] from hR ▸ ga _)) a3w) (PAP.zx (by simp only[aR,aE];omega))) (PAP.a3d (bh rfl) (PAP.a3c (bh rfl)) onn (PAP.yo _ _ _)) (PAP.zx (by simp only[ae,aR,aE,b6];omega)))))))))) ?_
   exact(BR.of (b:=true) rfl (((((rt true).take a).app (TL.cons (awj ht k am) .nil)).app ((rt true).drop a)).tup (by omega) |>.up (by omega) (by omega)) P2).up (by omega) (a9 _) (a9 _)
  have c:=eqm 8;rw[ar q8]at c;have cr:mj (sIt (sV 1)) t1 (ud di (au 5) SRC.ak) [] [some (.ref 0),some (.tup (rs.map rlD)),some (.str (S tg)),some (bz a),some (DRW.nmD RR.1),some (sd RR.2),some (bz s),none] [o2]=.ok (.ref 1) ([o2]++[.lst (rs.map rlD)]):=by
   refine qj (h:=[o2]) rlD rlD rs (a75 (bh rfl) (ah6 _ _)) (bx (by omega)) λr _=>?_
   rw[v5];exact bh rfl
  refine .tr (jd (ai (ifF c3) (ai (ifF c6) (ai (ifF cq6) (ai (ifF cq7) (ai (ifF c) (fu cr))))))) ?_;exact⟨.rol (rs.map rlD),o2,.inr ⟨_,rfl,rfl⟩,⟨false,((rt false).rol (by omega)).up (by omega) (by omega)⟩,P2.up (by omega)⟩
end K16
namespace K16
open L2 MI AT HND EVX
open K20 (Deep isInt a4b isStr)
open SRC (Src)
open DRW (dw)
open SHD
open DRW (Rule rlD Bk)
def alu:SF:=jt (agy j7 jj j8 DRW.ww SRC.ak iu SRC.nq SRC.qu) 7
theorem b29{τ:Sd}{h h1:Hd}{f1 f2 f3 f4:SE}(e1:f1 τ h=.ok (.bl true) h)(e2:f2 τ h=.ok (.bl true) h)(e3:f3 τ h=.ok (.bl true) h1)(e4:f4 τ h1=.ok (.bl true) h1):qx f1 (qx f2 (qx f3 f4)) τ h=.ok (.bl true) h1:=a1c e1 (a1c e2 (a1c e3 e4))
theorem b2a(r:Nat)(h:r<3)(hh:Hd):∃m:Nat,m<=40/\gIx (.tup [.int 10,.int 10,.int 40]) (bz r) hh=.ok (bz m) hh:=by
 rcases r with _|_|_|r
 .exact⟨10,by omega,a6q (j:=0) rfl⟩
 .exact⟨10,by omega,a6q (j:=1) rfl⟩
 .exact⟨40,by omega,a6q (j:=2) rfl⟩
 .omega
theorem a6i{z p:Nat}{d:D}(h:Odd z p d)(hz:z<=16000000)(hp:p<=60):Pu iu 1 [d] (.bl true):=let ⟨_,t⟩:=h;t.right hz hp
theorem a8a{tg:List Nat}{q N:Nat}{rs:List Rule}{o:O}{x s m:D}{a:Option D}(ht:∀c∈tg,c<127)(t6:tg.length<=6)(k:Bk tg q rs)(ox:Odd 9000000 40 x)(P:Src o N)(hN:N<=800000000)(s0:Option D) :
  ∃h',toR (jf (qx (sA (gm false 1 iu) (aj (sV 4) aq)) (qx (sA (gm false 1 iu) (aj (sV 5) aq)) (qx (sA (gm false 1 iu) (aj (sA (gm false 1 j7) (aj (sV 1) aq)) aq)) (sA (gm false 1 iu) (aj (sV 4) aq))))) [s0,some (.ref 0),some s,some m,some (DRW.bkD tg rs),some x,a] [o])=.ok (.bl true) h':=by
 obtain⟨y,o1,e1,oy,P1⟩:=ahy P (by omega)
 have bk:Odd 9000000 40 (DRW.bkD tg rs):=⟨true,(((TT.str (b:=true) (l:=tg) (by omega) ht).two ((ai2 ht k).tup (by omega)))).up (by omega) (by decide)⟩
 have rb:=a6i bk (by omega) (by omega)
 exact⟨[o1],ah toR (fu (b29 (jo (bh rfl) (rb _)) (jo (bh rfl) (a6i ox (by omega) (by omega) _)) (jo (jo (bh rfl) (drz e1)) (a6i oy (by omega) (by omega) _)) (jo (bh rfl) (rb _))))⟩
def LR(r:R D):Prop:=∃h',r=.ok (.bl true) h'
theorem LR.tr{x y:Fl}(e:x=y)(h:LR (toR y)):LR (toR x):=e ▸ h
theorem awl(ns:List Int):∃h',alu [.scr (ns.map D.int)] []=.ok (.bl true) h':=by
 unfold alu;rw[du];show LR (toR (agy j7 jj j8 DRW.ww SRC.ak iu SRC.nq SRC.qu [some (.scr (ns.map D.int)),none,none,none,none,none,none] []));unfold agy;obtain⟨o,P,e⟩:=SRC.ahg ns [];refine .tr (j9 (jo (bh rfl) e)) ?_;obtain⟨s,o1,e1,sb,P1⟩:=dw (m:=8) P (by omega) (by decide) (by decide)
 refine .tr (j9 (lq (bh rfl) ckk (drz e1))) ?_;obtain⟨r,o2,e2,rb,P2⟩:=dw (m:=3) P1 (by omega) (by decide) (by decide)
 obtain⟨m,m40,em⟩:=b2a r (by omega) [o2]
 refine .tr (j9 (jb (a2x ckk ckk ckk ad8) (lq (bh rfl) ckk (drz e2)) em)) ?_;obtain⟨tg,o3,tk,e3,P3⟩:=SRC.ahh P2 (by omega)
 obtain⟨rs,o4,e4,k,P4⟩:=DRW.aqc tk.lo tk.hi tk.nd (p:=m) (by omega) P3 (by omega)
 refine .tr (j9 (a2x (bh rfl) (jo (bh rfl) (drz e3)) (bh rfl) (drz e4))) ?_;refine .tr (j9 (bh rfl)) ?_;have ht:∀c∈tg,c<127:=λc hc=>a9u c (tk.sub c hc);have t6:=tk.hi;have g0:∀(a5 a6:Option D) (h:Hd),s2 gIx (sV 4) (sI 0) [some (.scr (ns.map D.int)),some (.ref 0),some (bz s),some (bz m),some (DRW.bkD tg rs),a5,a6] h=.ok (.str (S tg)) h:=λa5 a6 h=>nj rfl ix0;have g1:∀(a5 a6:Option D) (h:Hd),s2 gIx (sV 4) (sI 1) [some (.scr (ns.map D.int)),some (.ref 0),some (bz s),some (bz m),some (DRW.bkD tg rs),a5,a6] h=.ok (.tup (rs.map rlD)) h:=λa5 a6 h=>nj rfl ix1
 have rt:∀b,TL b 1026846 11 6 (rs.map rlD):=λb=>ai2 ht k;have tt:∀b,TT b 62 0 (.str (S tg)):=λb=>(TT.str (by omega) ht).up (by omega) (a9 _)
 have wl:=(rt true).l;show LR (toR (gh _ _ [some (.scr (ns.map D.int)),some (.ref 0),some (bz s),some (bz m),some (DRW.bkD tg rs),some (DRW.bkD tg rs),none] [o4]));have bkT:∀b,TT b 2000000 20 (DRW.bkD tg rs):=λb=>((tt b).two ((rt b).tup (by omega))).up (by omega) (by decide)
 have lt:∀(n:Nat),sT (s2 gLt (sV 2) (sC (bz n))) [some (.scr (ns.map D.int)),some (.ref 0),some (bz s),some (bz m),some (DRW.bkD tg rs),some (DRW.bkD tg rs),none] [o4]=.ok (decide (s<n)) [o4]:=λn=>by
  refine tvc rfl ?_;show R.ok (D.bl (decide ((s:Int)<(n:Nat)))) _=_
  congr 2
  exact cG.mpr (by omega)
 by_cases s2':s<2
 .have c:=lt 2;rw[ay s2']at c;obtain⟨x,o5,e5,⟨b,t⟩,P5⟩:=abj ht t6 P4 (by omega)
  refine .tr (rm (ai (ifT c) (aed (lq (lq (bh rfl) (g0 _ _ _) (drz e5)) (g1 _ _ _) a05)))) ?_;exact a8a ht t6 k ⟨b,(t.two ((rt b).tup (by omega))).up (by omega) (by decide)⟩ P5 (by omega) _
 have c2:=lt 2;rw[ar s2']at c2
 by_cases s6:s<6
 .have c:=lt 6;rw[ay s6]at c;obtain⟨x,o5,e5,⟨b,t⟩,P5⟩:=aee ht t6 k P4 (by omega)
  refine .tr (rm (ai (ifF c2) (ai (ifT c) (aed (lq (g0 _ _ _) (a2x (bh rfl) (g1 _ _ _) (g0 _ _ _) (drz e5)) a05))))) ?_;exact a8a ht t6 k ⟨b,((tt b).two t).up (by omega) (by decide)⟩ P5 (by omega) _
 have c6:=lt 6;rw[ar s6]at c6
 by_cases q6:s=6
 .have c:sT (s2 hEq (sV 2) (sI 6)) [some (.scr (ns.map D.int)),some (.ref 0),some (bz s),some (bz m),some (DRW.bkD tg rs),some (DRW.bkD tg rs),none] [o4]=.ok true [o4]:=tvc rfl (xu (by omega))
  obtain⟨i,o5,e5,ib,P5⟩:=dw (m:=5) P4 (by omega) (by decide) (by decide)
  have co:=P4.clo;have cr:clos 0 (rs.map rlD):=(rt true).clo;have d5:sA MI.dj (aj (s2 dm (sV 4) (sA MI.dj (aj (sI 0) aq))) (aj (sZ (sA MI.ye (aj (s2 gIx (sV 4) (sI 0)) (aj (s2 gIx (sV 4) (sI 1)) aq)))) (aj (s2 gIx (sV 4) (sI 0)) (aj (sA MI.dj (aj (s2 gIx (sV 4) (sI 1)) (aj (s2 gIx (sV 4) (sI 0)) aq))) (aj (sA MI.dj (aj (s2 gIx (sV 4) (sI 0)) aq)) aq))))) [some (.scr (ns.map D.int)),some (.ref 0),some (bz s),some (bz m),some (DRW.bkD tg rs),some (DRW.bkD tg rs),none] [o4]
    = .ok (.tup [.tup [.str (S tg),.tup (rs.map rlD),.int 0],.rol [.str (S tg),.tup (rs.map rlD)],.str (S tg),.tup [.tup (rs.map rlD),.str (S tg)],.tup [.str (S tg)]]) [o4]:=by
   refine aoo (cns (jb (bh rfl) (jo ckk a3w) (PAP.zx (by simp))) (cns (zds (cns (g0 _ _ _) (cns (g1 _ _ _) nlo)) rfl (bj (cu _) (bj (jc cr) dz)) (EVT.m9 co) (by simp)) (cns (g0 _ _ _) (cns (lq (g1 _ _ _) (g0 _ _ _) a05) (cns (jo (g0 _ _ _) a3w) nlo))))) ?_
   unfold MI.dj;rw[av (bx (by simp))]
   rfl
  have od:∀x∈([.tup [.str (S tg),.tup (rs.map rlD),.int 0],.rol [.str (S tg),.tup (rs.map rlD)],.str (S tg),.tup [.tup (rs.map rlD),.str (S tg)],.tup [.str (S tg)]]:List D),Odd 9000000 40 x :=
   all_cons ⟨false,((TL.cons (tt _) (TL.cons ((rt _).tup (by omega)) (TL.cons (TT.nat (n:=0) (by omega)) .nil))).tup (by omega)).up (by omega) (by decide)⟩ (all_cons ⟨false,((TL.cons (tt _) (TL.cons ((rt _).tup (by omega)) .nil)).rol (by omega)).up (by omega) (by decide)⟩
    (all_cons ⟨false,(tt _).up (by omega) (by omega)⟩ (all_cons ⟨false,(((rt _).tup (by omega)).two (tt _)).up (by omega) (by decide)⟩ (all_cons ⟨false,(tt _).one.up (by omega) (by omega)⟩ all_nil))))
  have l5:([.tup [.str (S tg),.tup (rs.map rlD),.int 0],.rol [.str (S tg),.tup (rs.map rlD)],.str (S tg),.tup [.tup (rs.map rlD),.str (S tg)],.tup [.str (S tg)]]:List D).length=5:=rfl
  generalize ([.tup [.str (S tg),.tup (rs.map rlD),.int 0],.rol [.str (S tg),.tup (rs.map rlD)],.str (S tg),.tup [.tup (rs.map rlD),.str (S tg)],.tup [.str (S tg)]]:List D)=five at d5 od l5
  have i5:i<five.length:=by omega
  have run:(gh (j5 6 (sA MI.dj (aj (s2 dm (sV 4) (sA MI.dj (aj (sI 0) aq))) (aj (sZ (sA MI.ye (aj (s2 gIx (sV 4) (sI 0)) (aj (s2 gIx (sV 4) (sI 1)) aq)))) (aj (s2 gIx (sV 4) (sI 0)) (aj (sA MI.dj (aj (s2 gIx (sV 4) (sI 1)) (aj (s2 gIx (sV 4) (sI 0)) aq))) (aj (sA MI.dj (aj (s2 gIx (sV 4) (sI 0)) aq)) aq)))))))
 (j5 5 (s2 gIx (sV 6) (sA (gm false 2 SRC.ak) (aj (sV 1) (aj (sI 5) aq)))))) [some (.scr (ns.map D.int)),some (.ref 0),some (bz s),some (bz m),some (DRW.bkD tg rs),some (DRW.bkD tg rs),none] [o4]=.nx [some (.scr (ns.map D.int)),some (.ref 0),some (bz s),some (bz m),some (DRW.bkD tg rs),some five[i],some (.tup five)] [o5] :=
   ai (j9 d5) (aed (jb (bh rfl) (lq (bh rfl) ckk (drz e5)) (a6q (a8 i5))))
  refine .tr (rm (ai (ifF c2) (ai (ifF c6) (ai (ifT c) run)))) ?_;exact a8a ht t6 k (od _ (b9 i5)) P5 (by omega) _
 have c:sT (s2 hEq (sV 2) (sI 6)) [some (.scr (ns.map D.int)),some (.ref 0),some (bz s),some (bz m),some (DRW.bkD tg rs),some (DRW.bkD tg rs),none] [o4]=.ok false [o4]:=tvc rfl (wk (by omega))
 refine .tr (rm (τ1:=[some (.scr (ns.map D.int)),some (.ref 0),some (bz s),some (bz m),some (DRW.bkD tg rs),some (DRW.bkD tg rs),none]) (h1:=[o4]) (ai (ifF c2) (ai (ifF c6) (ai (ifF c) rfl)))) ?_;exact a8a ht t6 k ⟨true,(bkT _).up (by omega) (by omega)⟩ P4 (by omega) _
end K16
namespace L2
open PySem.W PyProof.Rows
theorem ai4{K:Frag}{C:Addr}(q:excIn K C [.type "ValueError",.type "Exception",.type "BaseException",.type "object"] "ValueError.__new__" = true):XCls K C:=by
 unfold excIn at q
 split at q
 .rename_i dd cd sl lo
  split at q
  .rename_i C' bm k0 k1 k2 k3 n k5 mo ss;simp only[af,fh,e8]at q;obtain⟨⟨⟨⟨⟨e1,e2⟩,nd⟩,tl⟩,no⟩,ni⟩:=q;subst e1 e2;cases cd
   dsimp only at mo nd no ni;subst mo nd;obtain⟨l⟩:=sl;simp only at ss;subst ss;exact⟨_,_,_,_,bm,_,_,_,_,_,dd,k0,k1,k2,k3,k5,lo,no,ni,tl⟩
  .cases q
 .cases q
end L2
namespace K16
open L2 MI
section
variable{P:Program}{w:World}{K:Fg}{mg:Str->Option Value}{base:Heap}{f:Addr}{fd:FuncData}
theorem a3y{P:Program}{w:World}{K:Fg}{mg:Str->Option Value}{base:Heap}{f:Addr}{k:Nat}{N ps:List Str}{x:Str}{t:Stmt}{b:SS}{fd:FuncData}(Fu:Fun K x x t f fd)(m:MD P w K mg base f k N ps x t b):FnOk P w K mg base CX0 (k+1) f fd ps (a0h K ps.length (jt b N.length)):=auc Fu m.1 m.2
theorem d_6{f_6:Addr}{e_6:FuncData}(Fu_6:Fun K "parts_count" "parts_count" (top 11) f_6 e_6)(mk_6:mg "parts_count" = some (.ref f_6))(kp_6:PySem.W.keepIn K (.ref f_6)=true)(bd_6:Binds K e_6 ["thing","deep","most"] []){a_9:Addr}{d_9:FuncData}(D_9:Dn P w K mg base 1 "inner" ["shape"] (a0h K 1 (K16.je)) a_9 d_9){a_7:Addr}{d_7:FuncData}(D_7:Dn P w K mg base 4 "is_form" ["thing"] (a0h K 1 (K16.qt)) a_7 d_7):∀n:Nat,Dn P w K mg base (n+4) "parts_count" ["thing","deep","most"] (a0h K 3 (K16.gj n)) f_6 e_6:=by
 intro n
 induction n with
 |zero=>exact⟨aat (ps:=["thing","deep","most"]),mk_6,kp_6,bd_6⟩
 |succ n ih =>
  have e:n+1+4=n+4+1:=by omega
  rw[e];have s_parts_count:=ih;exact⟨a3y Fu_6 (m_6 (dk D_9 (by omega)) (dk D_7 (by omega)) (dk s_parts_count (by omega))),mk_6,kp_6,bd_6⟩
theorem ax7{f_10:Addr}{e_10:FuncData}(Fu_10:Fun K "weight" "weight" (top 15) f_10 e_10)(mk_10:mg "weight" = some (.ref f_10))(kp_10:PySem.W.keepIn K (.ref f_10)=true)(bd_10:Binds K e_10 ["shape"] [])(M:Nm mg){a_9:Addr}{d_9:FuncData}(D_9:Dn P w K mg base 1 "inner" ["shape"] (a0h K 1 (K16.je)) a_9 d_9):∀n:Nat,Dn P w K mg base (n+1) "weight" ["shape"] (a0h K 1 (K16.jr n)) f_10 e_10:=by
 intro n
 induction n with
 |zero=>exact⟨aat (ps:=["shape"]),mk_10,kp_10,bd_10⟩
 |succ n ih =>
  have e:n+1+1=n+1+1:=by omega
  rw[e];have s_weight:=ih;exact⟨a3y Fu_10 (b0w M (dk D_9 (by omega)) s_weight (by omega)),mk_10,kp_10,bd_10⟩
theorem b2b{f_11:Addr}{e_11:FuncData}(Fu_11:Fun K "parts_of" "parts_of" (top 16) f_11 e_11)(mk_11:mg "parts_of" = some (.ref f_11))(kp_11:PySem.W.keepIn K (.ref f_11)=true)(bd_11:Binds K e_11 ["shape"] [])(M:Nm mg){a_9:Addr}{d_9:FuncData}(D_9:Dn P w K mg base 1 "inner" ["shape"] (a0h K 1 (K16.je)) a_9 d_9):∀n:Nat,Dn P w K mg base (n+1) "parts_of" ["shape"] (a0h K 1 (K16.ie n)) f_11 e_11:=by
 intro n
 induction n with
 |zero=>exact⟨aat (ps:=["shape"]),mk_11,kp_11,bd_11⟩
 |succ n ih =>
  have e:n+1+1=n+1+1:=by omega
  rw[e];have s_parts_of:=ih;exact⟨a3y Fu_11 (b0x M (dk D_9 (by omega)) (dk s_parts_of (by omega))),mk_11,kp_11,bd_11⟩
theorem azd{f_23:Addr}{e_23:FuncData}(Fu_23:Fun K "_law_weight" "_law_weight" (top 38) f_23 e_23)(mk_23:mg "_law_weight" = some (.ref f_23))(kp_23:PySem.W.keepIn K (.ref f_23)=true)(bd_23:Binds K e_23 ["_law_shape_here"] [])(M:Nm mg):∀n:Nat,Dn P w K mg base (n+0) "_law_weight" ["_law_shape_here"] (a0h K 1 (DRW.bc n)) f_23 e_23:=by
 intro n
 induction n with
 |zero=>exact⟨aat (ps:=["_law_shape_here"]),mk_23,kp_23,bd_23⟩
 |succ n ih =>
  have e:n+1+0=n+0+1:=by omega
  rw[e];have s_law_weight:=ih;exact⟨a3y Fu_23 (b1d M (dk s_law_weight (by omega))),mk_23,kp_23,bd_23⟩
theorem b2c{f_24:Addr}{e_24:FuncData}(Fu_24:Fun K "_law_shape" "_law_shape" (top 39) f_24 e_24)(mk_24:mg "_law_shape" = some (.ref f_24))(kp_24:PySem.W.keepIn K (.ref f_24)=true)(bd_24:Binds K e_24 ["_law_left","_law_tongue_here","_law_deep","_law_purse","_law_room"] [])(M:Nm mg){a_19:Addr}{d_19:FuncData}(D_19:Dn P w K mg base 1 "_law_draw" ["_law_left","_law_many"] (a0h K 2 (SRC.ak)) a_19 d_19){a_22:Addr}{d_22:FuncData}(D_22:Dn P w K mg base 2 "_law_ones" ["_law_left","_law_tongue_here"] (a0h K 2 (DRW.jy)) a_22 d_22){a_23:Addr}{azd:FuncData}(D_23:Dn P w K mg base 5 "_law_weight" ["_law_shape_here"] (a0h K 1 (DRW.bc 5)) a_23 azd):∀n:Nat,Dn P w K mg base (n+5) "_law_shape" ["_law_left","_law_tongue_here","_law_deep","_law_purse","_law_room"] (a0h K 5 (DRW.gf n)) f_24 e_24:=by
 intro n
 induction n with
 |zero=>exact⟨aat (ps:=["_law_left","_law_tongue_here","_law_deep","_law_purse","_law_room"]),mk_24,kp_24,bd_24⟩
 |succ n ih =>
  have e:n+1+5=n+5+1:=by omega
  rw[e];have s_law_shape:=ih;exact⟨a3y Fu_24 (b1e M (dk D_19 (by omega)) (dk D_22 (by omega)) (dk s_law_shape (by omega)) (dk D_23 (by omega))),mk_24,kp_24,bd_24⟩
theorem b2d{f_29:Addr}{e_29:FuncData}(Fu_29:Fun K "_law_counted" "_law_counted" (top 44) f_29 e_29)(mk_29:mg "_law_counted" = some (.ref f_29))(kp_29:PySem.W.keepIn K (.ref f_29)=true)(bd_29:Binds K e_29 ["_law_thing","_law_tongue_here","_law_deep"] [])(M:Nm mg){a_28:Addr}{d_28:FuncData}(D_28:Dn P w K mg base 1 "_law_is_signs" ["_law_thing","_law_tongue_here"] (a0h K 2 (K16.bu)) a_28 d_28){a_27:Addr}{d_27:FuncData}(D_27:Dn P w K mg base 1 "_law_row" ["_law_found"] (a0h K 1 (K16.m8)) a_27 d_27):∀n:Nat,Dn P w K mg base (n+1) "_law_counted" ["_law_thing","_law_tongue_here","_law_deep"] (a0h K 3 (K16.c7 n)) f_29 e_29:=by
 intro n
 induction n with
 |zero=>exact⟨aat (ps:=["_law_thing","_law_tongue_here","_law_deep"]),mk_29,kp_29,bd_29⟩
 |succ n ih =>
  have e:n+1+1=n+1+1:=by omega
  rw[e];have s_law_counted:=ih;exact⟨a3y Fu_29 (b1j M (dk s_law_counted (by omega)) (dk D_28 (by omega)) (dk D_27 (by omega))),mk_29,kp_29,bd_29⟩
theorem b2e{f_32:Addr}{e_32:FuncData}(Fu_32:Fun K "_law_bent_shape" "_law_bent_shape" (top 47) f_32 e_32)(mk_32:mg "_law_bent_shape" = some (.ref f_32))(kp_32:PySem.W.keepIn K (.ref f_32)=true)(bd_32:Binds K e_32 ["_law_left","_law_shape_here","_law_tongue_here"] [])(M:Nm mg){a_31:Addr}{d_31:FuncData}(D_31:Dn P w K mg base 2 "_law_any" ["_law_left"] (a0h K 1 (K16.j7)) a_31 d_31){a_19:Addr}{d_19:FuncData}(D_19:Dn P w K mg base 1 "_law_draw" ["_law_left","_law_many"] (a0h K 2 (SRC.ak)) a_19 d_19){a_20:Addr}{d_20:FuncData}(D_20:Dn P w K mg base 1 "_law_signs" [] (a0h K 0 (SRC.b8)) a_20 d_20):∀n:Nat,Dn P w K mg base (n+2) "_law_bent_shape" ["_law_left","_law_shape_here","_law_tongue_here"] (a0h K 3 (K16.au n)) f_32 e_32:=by
 intro n
 induction n with
 |zero=>exact⟨aat (ps:=["_law_left","_law_shape_here","_law_tongue_here"]),mk_32,kp_32,bd_32⟩
 |succ n ih =>
  have e:n+1+2=n+2+1:=by omega
  rw[e];have s_law_bent_shape:=ih;exact⟨a3y Fu_32 (b1m M (dk D_31 (by omega)) (dk s_law_bent_shape (by omega)) (dk D_19 (by omega)) D_20 (by omega)),mk_32,kp_32,bd_32⟩
end
noncomputable def alv(K:Fg):Sp:=λvs H Q _=>∃(a:Addr) (ns:List Int),vs=[.ref a]/\SqF K H a (ns.map V.int)/\ns.length<=63/\∀H',Q (.bl true) H'
theorem aa4{K:Fg}{U:List Addr}{H:Hp}:∀ns:List Int,Reps K U H (ns.map V.int) (ns.map D.int)
 |[]=>.nil
 |n::ns=>.cons (.int n) (aa4 ns)
theorem awm{K:Fg}(vs:List V)(H:Hp)(Q:VK)(E:XK)(h:alv K vs H Q E):a0h K 1 K16.alu vs H Q E:=by
 obtain⟨a,ns,rfl,hS,hl,q⟩:=h;obtain⟨h',e⟩:=K16.awl ns;refine⟨rfl,[],[.scr (ns.map D.int)],[],.cons (.scr hS (aa4 ns)) .nil,⟨dM,rfl,λi a o z=>by simp at z⟩,?_⟩
 rw[e]
 intro U' H' b g r hr
 cases r
 exact q H'
theorem awn{K:Fg}{H:Hp}{a:Addr}{vs:List V}(hO:Only H)(hS:SqL K H a vs):SqF K H a vs:=by
 rcases hS with r|r
 .rcases r with r|⟨o,r⟩
  .rcases hO a with z|⟨o,xs,z⟩<;>rw[z]at r<;>cases r
  .exact .inl ⟨o,r⟩
 .exact .inr (.inr r)
abbrev fo(x:Str)(t:Stmt)(kV dc pm:Value)(an:Option Addr)(cd ct:Value):=PySem.W.fnOf x x (a2p t) (uq t) (ig t) .none kV dc pm an cd ct
def Df(K:Fg)(f:Addr)(nm:Str)(i:Nat):Prop:=∃oc od kV dc pm an cd ct sl,PySem.W.nsIn K mainGlobals nm=some (some (.ref f))/\K.lookup f=some ⟨oc,od,.func (fo nm (top i) kV dc pm an cd ct),sl⟩/\PySem.W.codeIn K cd nm=true/\PySem.W.keepIn K (.ref f)=true
theorem df{K:Fg}{f:Addr}{nm:Str}{i:Nat}(d:Df K f nm i):∃e,PySem.W.nsIn K mainGlobals nm=some (some (.ref f))/\Fun K nm nm (top i) f e:=by
 obtain⟨_,_,_,_,_,_,_,_,_,a,l,c,k⟩:=d;exact⟨_,a,asi l c k⟩
theorem ul{P:Program}{w:World}{K:Fg}{mg:Str->Option Value}{base h:Heap}{f:Addr}{nm:Str}{i k:Nat}{F:SF}{N ps:List Str}{b:SS}(d:Df K f nm i)(X:K.In h)(G:h.Ns mainGlobals mg)(m:MD P w K mg base f k N ps nm (top i) b)
  (h:∀(kV doc pm:Value) (an:Option Addr) (cdv ct:Value) (us:List Value),us.length=ps.length->bindArgs (PySem.W.fnOf nm nm (a2p (top i)) (uq (top i)) (ig (top i)) .none kV doc pm an cdv ct) ⟨us,[]⟩=pure (ps.zip us)) (e:F=jt b N.length:=by rfl) :
  ∃fd,Dn P w K mg base (k+1) nm ps (a0h K ps.length F) f fd:=by
 obtain⟨_,a,Fu⟩:=df d;rw[e];exact⟨_,a3y Fu m,bI X G a,Fu.kp,Fu.binds h⟩
local macro_rules|`(tactic|walk_at "b") => `(tactic|(intro _ _ _ _ _ _ us hl;first|(apply azr hl;intro _;exact rfl)|(apply azs hl;intro _ _;exact rfl)|(apply azt hl;intro _ _ _;exact rfl)|(apply azu hl;intro _ _ _ _;exact rfl)|(apply azv hl;intro _ _ _ _ _;exact rfl)|(apply b0v hl;intro _ _ _ _ _ _;exact rfl)|(apply len0 hl;exact rfl)))
theorem awo{l:PySem.W.OpenLaw}{w:World}{K:Fg}{h:Heap}{mg:Str->Option Value}{fa f1 f2 f3 f4 f5 f6 f7 f8 f9 f10 f11 f12 f13 f14 f15 f16 f17 f18 f19 f20 f21 f22 f23 f24 f25 f26 f27 f28 f29 f30 f31 f32 f33 f34 f35 f36 f37 f38 f39:Addr}(X:K.In h)(G:h.Ns mainGlobals mg)(hfa:mg "law" = some (.ref fa))
  (d1:Df K f1 "is_number" 1)
  (d2:Df K f2 "is_number_from" 2)
  (d3:Df K f3 "is_row" 3)
  (d4:Df K f4 "is_sign" 4)
  (d5:Df K f5 "is_unlike_signs" 5)
  (d6:Df K f6 "is_shape" 10)
  (d7:Df K f7 "parts_count" 11)
  (d8:Df K f8 "is_form" 12)
  (d9:Df K f9 "are_times" 13)
  (d10:Df K f10 "inner" 14)
  (d11:Df K f11 "weight" 15)
  (d12:Df K f12 "parts_of" 16)
  (d13:Df K f13 "is_tongue" 25)
  (d14:Df K f14 "is_text" 26)
  (d15:Df K f15 "looked_book" 28)
  (d16:Df K f16 "is_book" 29)
  (d17:Df K f17 "is_rule" 30)
  (d18:Df K f18 "is_name" 31)
  (d19:Df K f19 "_law_source" 33)
  (d20:Df K f20 "_law_draw" 34)
  (d21:Df K f21 "_law_signs" 35)
  (d22:Df K f22 "_law_tongue" 36)
  (d23:Df K f23 "_law_ones" 37)
  (d24:Df K f24 "_law_weight" 38)
  (d25:Df K f25 "_law_shape" 39)
  (d26:Df K f26 "_law_name" 40)
  (d27:Df K f27 "_law_book" 41)
  (d28:Df K f28 "_law_row" 42)
  (d29:Df K f29 "_law_is_signs" 43)
  (d30:Df K f30 "_law_counted" 44)
  (d31:Df K f31 "_law_is_book" 45)
  (d32:Df K f32 "_law_any" 46)
  (d33:Df K f33 "_law_bent_shape" 47)
  (d34:Df K f34 "_law_bent_name" 48)
  (d35:Df K f35 "_law_bent_rules" 49)
  (d36:Df K f36 "_law_bent_tongue" 50)
  (d37:Df K f37 "_law_said" 51)
  (d38:Df K f38 "_law_right" 52)
  (d39:Df K f39 "law" 53)
  {y_NoBook y_TooHeavy y_ReachError y_NoPlace y_NoShape y_TooMany:Addr}
  (xg_NoBook:PySem.W.nsIn K mainGlobals "NoBook" = some (some (.ref y_NoBook)))
  (xg_TooHeavy:PySem.W.nsIn K mainGlobals "TooHeavy" = some (some (.ref y_TooHeavy)))
  (xg_ReachError:PySem.W.nsIn K mainGlobals "ReachError" = some (some (.ref y_ReachError)))
  (xg_NoPlace:PySem.W.nsIn K mainGlobals "NoPlace" = some (some (.ref y_NoPlace)))
  (xg_NoShape:PySem.W.nsIn K mainGlobals "NoShape" = some (some (.ref y_NoShape)))
  (xg_TooMany:PySem.W.nsIn K mainGlobals "TooMany" = some (some (.ref y_TooMany)))
  (xc_NoBook:XCls K y_NoBook)
  (xk_NoBook:XKit K y_NoBook)
  (xe_NoBook_ReachError:PySem.W.exmOne K (.ref y_NoBook) (.ref y_ReachError)=some true)
  (xi_NoBook_ValueError:PySem.W.kitOne K (.ref y_NoBook) (.type "ValueError")=some true)
  (xi_NoBook_TooHeavy:PySem.W.kitOne K (.ref y_NoBook) (.ref y_TooHeavy)=some false)
  (xi_NoBook_NoBook:PySem.W.kitOne K (.ref y_NoBook) (.ref y_NoBook)=some true)
  (xi_NoBook_NoPlace_NoShape_TooMany:PySem.W.kitAny K (.ref y_NoBook) [.ref y_NoPlace,.ref y_NoShape,.ref y_TooMany]=some false)
  (xc_TooHeavy:XCls K y_TooHeavy)
  (xk_TooHeavy:XKit K y_TooHeavy)
  (xe_TooHeavy_ReachError:PySem.W.exmOne K (.ref y_TooHeavy) (.ref y_ReachError)=some true)
  (xi_TooHeavy_ValueError:PySem.W.kitOne K (.ref y_TooHeavy) (.type "ValueError")=some true)
  (xi_TooHeavy_TooHeavy:PySem.W.kitOne K (.ref y_TooHeavy) (.ref y_TooHeavy)=some true)
  (xi_TooHeavy_NoBook:PySem.W.kitOne K (.ref y_TooHeavy) (.ref y_NoBook)=some false)
  (xi_TooHeavy_NoPlace_NoShape_TooMany:PySem.W.kitAny K (.ref y_TooHeavy) [.ref y_NoPlace,.ref y_NoShape,.ref y_TooMany]=some false)
  (z1:PySem.W.nsIn K mainGlobals "ValueError" = some none) (z2:PySem.W.nsIn K mainGlobals "abs" = some none) (z3:PySem.W.nsIn K mainGlobals "all" = some none) (z4:PySem.W.nsIn K mainGlobals "bool" = some none) (z5:PySem.W.nsIn K mainGlobals "int" = some none) (z6:PySem.W.nsIn K mainGlobals "isinstance" = some none) (z7:PySem.W.nsIn K mainGlobals "len" = some none) (z8:PySem.W.nsIn K mainGlobals "list" = some none) (z9:PySem.W.nsIn K mainGlobals "max" = some none) (z10:PySem.W.nsIn K mainGlobals "ord" = some none) (z11:PySem.W.nsIn K mainGlobals "range" = some none) (z12:PySem.W.nsIn K mainGlobals "repr" = some none) (z13:PySem.W.nsIn K mainGlobals "set" = some none) (z14:PySem.W.nsIn K mainGlobals "str" = some none) (z15:PySem.W.nsIn K mainGlobals "sum" = some none) (z16:PySem.W.nsIn K mainGlobals "tuple" = some none) {ty1:Tok} (y1:PySem.W.nsIn K mainGlobals "DEEPEST" = some (some (.int 5 ty1))) {ty2:Tok} (y2:PySem.W.nsIn K mainGlobals "HEAVIEST" = some (some (.int 10 ty2))) {ty3:Tok} (y3:PySem.W.nsIn K mainGlobals "MOST_PARTS" = some (some (.int 24 ty3))) :
  ∃fd:FuncData,(∀(s:Shared) (v:Value),BindsTo s fd ⟨[v],[]⟩ [("_law_script",v)])/\∀base:Heap,K.In base->base.Ns mainGlobals mg->FnOk l.prog w K mg base CX0 17 fa fd ["_law_script"] (alv K):=by
 obtain⟨_,a7,F7⟩:=df d7;have b7:=F7.binds (ps:=["thing","deep","most"]) (by walk_at "b")
 obtain⟨_,a11,F11⟩:=df d11;have b11:=F11.binds (ps:=["shape"]) (by walk_at "b")
 obtain⟨_,a12,F12⟩:=df d12;have b12:=F12.binds (ps:=["shape"]) (by walk_at "b")
 obtain⟨_,a15,F15⟩:=df d15;have b15:=F15.binds (ps:=["thing"]) (by walk_at "b")
 obtain⟨_,a24,F24⟩:=df d24;have b24:=F24.binds (ps:=["_law_shape_here"]) (by walk_at "b")
 obtain⟨_,a25,F25⟩:=df d25;have b25:=F25.binds (ps:=["_law_left","_law_tongue_here","_law_deep","_law_purse","_law_room"]) (by walk_at "b")
 obtain⟨_,a30,F30⟩:=df d30;have b30:=F30.binds (ps:=["_law_thing","_law_tongue_here","_law_deep"]) (by walk_at "b")
 obtain⟨_,a33,F33⟩:=df d33;have b33:=F33.binds (ps:=["_law_left","_law_shape_here","_law_tongue_here"]) (by walk_at "b")
 obtain⟨_,a39,F39⟩:=df d39;have e:=hfa.symm.trans (bI X G a39);cases e
 obtain⟨oc,od,kV39,dc39,pm39,an39,cd39,ct39,sl,rfl,lk,hc⟩:=id F39.ex;have b39:=F39.binds (ps:=["_law_script"]) (by walk_at "b")
 have M:Nm mg:=⟨bq X G z1,bq X G z2,bq X G z3,bq X G z4,bq X G z5,bq X G z6,bq X G z7,bq X G z8,bq X G z9,bq X G z10,bq X G z11,bq X G z12,bq X G z13,bq X G z14,bq X G z15,bq X G z16⟩;have C:Cn mg:=⟨⟨_,bI X G y1⟩,⟨_,bI X G y2⟩,⟨_,bI X G y3⟩⟩
 have Z:Xn K mg y_NoBook y_TooHeavy y_ReachError y_NoPlace y_NoShape y_TooMany:=⟨bI X G xg_NoBook,bI X G xg_TooHeavy,bI X G xg_ReachError,bI X G xg_NoPlace,bI X G xg_NoShape,bI X G xg_TooMany,xg_NoBook,xc_NoBook,xk_NoBook,xe_NoBook_ReachError,xi_NoBook_ValueError,xi_NoBook_TooHeavy,xi_NoBook_NoBook,xi_NoBook_NoPlace_NoShape_TooMany,xg_TooHeavy,xc_TooHeavy,xk_TooHeavy,xe_TooHeavy_ReachError,xi_TooHeavy_ValueError,xi_TooHeavy_TooHeavy,xi_TooHeavy_NoBook,xi_TooHeavy_NoPlace_NoShape_TooMany⟩
 refine⟨PySem.W.fnOf "law" "law" (a2p (top 53)) (uq (top 53)) (ig (top 53)) .none kV39 dc39 pm39 an39 cd39 ct39,λs v=>.of_eq rfl,λbase _ _=>?_⟩;obtain⟨_,D_0⟩:=ul (F:=K20.ue) (k:=0) d1 X G (m_0 M) (by walk_at "b")
 obtain⟨_,D_1⟩:=ul (F:=K20.jg) (k:=1) d2 X G (m_1 (dk D_0)) (by walk_at "b")
 obtain⟨_,D_2⟩:=ul (F:=K20.gw) (k:=0) d3 X G (m_2 M) (by walk_at "b")
 obtain⟨_,D_3⟩:=ul (F:=K20.uc) (k:=0) d4 X G (m_3 M) (by walk_at "b")
 obtain⟨_,D_4⟩:=ul (F:=K20.gq) (k:=1) d5 X G (m_4 M (dk D_3)) (by walk_at "b")
 obtain⟨_,D_9⟩:=ul (F:=K16.je) (k:=0) d10 X G (m_9 ) (by walk_at "b")
 obtain⟨_,D_8⟩:=ul (F:=K16.uf) (k:=2) d9 X G (m_8 (dk D_1)) (by walk_at "b")
 obtain⟨_,D_7⟩:=ul (F:=K16.qt) (k:=3) d8 X G (m_7 M (dk D_8) (dk D_2) (dk D_4)) (by walk_at "b")
 have D_6:=d_6 (P:=l.prog) (w:=w) (base:=base) F7 (bI X G a7) F7.kp b7 D_9 D_7 6;obtain⟨_,D_5⟩:=ul (F:=K16.jx) (k:=10) d6 X G (m_5 C (dk D_6)) (by walk_at "b")
 have D_10:=ax7 (P:=l.prog) (w:=w) (base:=base) F11 (bI X G a11) F11.kp b11 M D_9 5;have D_11:=b2b (P:=l.prog) (w:=w) (base:=base) F12 (bI X G a12) F12.kp b12 M D_9 5;obtain⟨_,D_12⟩:=ul (F:=K16.jm) (k:=2) d13 X G (b0y (dk D_4)) (by walk_at "b")
 obtain⟨_,D_13⟩:=ul (F:=K16.m7) (k:=0) d14 X G (b0z M) (by walk_at "b")
 obtain⟨_,D_17⟩:=ul (F:=K16.mz) (k:=0) d18 X G (b17 M) (by walk_at "b")
 obtain⟨_,D_16⟩:=ul (F:=K16.n6) (k:=11) d17 X G (b16 M (dk D_17) (dk D_2) (dk D_5) (dk D_13) (dk D_11)) (by walk_at "b")
 obtain⟨_,D_15⟩:=ul (F:=K16.n8) (k:=12) d16 X G (b14 M (dk D_2) (dk D_16) (dk D_12)) (by walk_at "b")
 have D_14:DnX l.prog w K mg base 14 "looked_book" ["thing"] (spX K mg 1 (K16.ik)) _ _:=⟨apl F15 ave (b13 M C Z D_15 (by decide) D_10 (by decide)),bI X G a15,F15.kp,b15⟩
 obtain⟨_,D_18⟩:=ul (F:=SRC.nq) (k:=0) d19 X G (b18 M) (by walk_at "b")
 obtain⟨_,D_19⟩:=ul (F:=SRC.ak) (k:=0) d20 X G (b19 M) (by walk_at "b")
 obtain⟨_,D_20⟩:=ul (F:=SRC.b8) (k:=0) d21 X G (b1a ) (by walk_at "b")
 obtain⟨_,D_21⟩:=ul (F:=SRC.qu) (k:=1) d22 X G (b1b M (dk D_19) D_20 (by decide)) (by walk_at "b")
 obtain⟨_,D_22⟩:=ul (F:=DRW.jy) (k:=1) d23 X G (b1c M (dk D_19)) (by walk_at "b")
 have D_23:=azd (P:=l.prog) (w:=w) (base:=base) F24 (bI X G a24) F24.kp b24 M 5;have D_24:=b2c (P:=l.prog) (w:=w) (base:=base) F25 (bI X G a25) F25.kp b25 M D_19 D_22 D_23 5;obtain⟨_,D_25⟩:=ul (F:=DRW.lw) (k:=1) d26 X G (b1f M (dk D_19)) (by walk_at "b")
 obtain⟨_,D_26⟩:=ul (F:=DRW.ww) (k:=10) d27 X G (b1g M (dk D_19) (dk D_25) (dk D_24) (dk D_23)) (by walk_at "b")
 obtain⟨_,D_27⟩:=ul (F:=K16.m8) (k:=0) d28 X G (b1h M) (by walk_at "b")
 obtain⟨_,D_28⟩:=ul (F:=K16.bu) (k:=0) d29 X G (b1i M) (by walk_at "b")
 have D_29:=b2d (P:=l.prog) (w:=w) (base:=base) F30 (bI X G a30) F30.kp b30 M D_28 D_27 6;obtain⟨_,D_30⟩:=ul (F:=K16.j4) (k:=7) d31 X G (b1k M (dk D_29) (dk D_28) D_20 (by decide)) (by walk_at "b")
 obtain⟨_,D_31⟩:=ul (F:=K16.j7) (k:=1) d32 X G (b1l M (dk D_19)) (by walk_at "b")
 have D_32:=b2e (P:=l.prog) (w:=w) (base:=base) F33 (bI X G a33) F33.kp b33 M D_31 D_19 D_20 5;obtain⟨_,D_33⟩:=ul (F:=K16.di) (k:=1) d34 X G (b1n M (dk D_19)) (by walk_at "b")
 obtain⟨_,D_34⟩:=ul (F:=K16.jj) (k:=7) d35 X G (b1o M (dk D_33) (dk D_32) (dk D_19)) (by walk_at "b")
 obtain⟨_,D_35⟩:=ul (F:=K16.j8) (k:=1) d36 X G (b1p M (dk D_19) D_20 (by decide)) (by walk_at "b")
 obtain⟨_,D_36⟩:=ul (F:=K16.jz) (k:=14) d37 X G (b1q M Z D_14 (by decide)) (by walk_at "b")
 obtain⟨_,D_37⟩:=ul (F:=K16.iu) (k:=15) d38 X G (b1r M (dk D_30) (dk D_36) (dk D_23)) (by walk_at "b")
 have D_38:Dn l.prog w K mg base 17 "law" ["_law_script"] (a0h K 1 (K16.alu)) _ _:=⟨a3y F39 (b1s (dk D_31) (dk D_34) (dk D_35) (dk D_26) (dk D_19) (dk D_37) D_18 (by decide) (dk D_21)),bI X G a39,F39.kp,b39⟩
 exact D_38.ok.imp awm
theorem walk{l:PySem.W.OpenLaw}{q:Program}{loose:List Str}{XP:(Str->Option Value)->Heap->Prop}{YP:World->Heap->Prop}{d:DefRec}{K:Params->Fg}(hn:l.most=some 63)(hdf:d.params.defaults=[])
  (hY:∀(w:World) (h:Heap),YP w h->(K w.params).In h)
  (F:∀(w:World) (mg:Str->Option Value) (fa:Addr) (h:Heap),(K w.params).In h->h.Ns mainGlobals mg->mg d.name=some (.ref fa)->
   ∃fd:FuncData,(∀(s:Shared) (u:Value),BindsTo s fd ⟨[u],[]⟩ [("_law_script",u)])/\∀base:Heap,(K w.params).In base->base.Ns mainGlobals mg->FnOk l.prog w (K w.params) mg base CX0 17 fa fd ["_law_script"] (alv (K w.params))) :
  PySem.W.WalkO q loose XP YP l.row.toRowW d [] (λf vs=>PySem.call f vs) :=
 L2.ao7 (n:=63) (k:=17) (x := "_law_script") (CX:=λ_=>CX0) (sp:=λw=>alv (K w.params)) hn (by decide) hdf ⟨rfl,by decide,by decide,rfl⟩ hY F (λ_ _ a ns hl hO hS=>⟨a,ns,rfl,awn hO hS,hl,λ_=>rfl⟩) λ_ _ _ _ _ z=>z
end K16
open PySem.W PyProof.Rows
local macro_rules|`(tactic|o_head $H) => `(tactic|refine PySem.W.holds_open (q:=K16.hq) (loose:=K16.hl) (Xt:=fun _=>true) (XP:=fun _ _=>True) (Yf:=Hook.obs $H) (Ya:=Hook.val $H) (YP:=Hook.says $H) (N:=20000) ?hl (Hook.of $H) (Hook.keeps $H) (fun _ _=>trivial) (fun _ _ _ _ _=>trivial) (by rfl) (by rfl) (by rfl) (fun _ _=>recFacts_nil rfl) (by rfl) (by assumption) (by decide +kernel) ⟨rfl,rfl,rfl,rfl,rfl,by decide +kernel⟩ ?hw ?hc)
set_option maxRecDepth 100000 in
set_option maxHeartbeats 0 in
theorem PySem.Challenge.cw_nearreach_k16_books_looked_at_holds : PySem.Challenge.rw_nearreach_k16_books_looked_at.Holds := by
 w_on;refine holds_law K16.said fun said=>?_;o_head (kHook K16.A.heap_1 [2,3,15,17,18,20,21,22,24,25,27,28,29,31,32,34,35,36,38,39,41,42,43,46,47,48,50,51,53,54,55,57,58,60,61,62,64,65,67,68,69,71,72,74,75,76,78,79,81,82,83,86,87,88,90,91,93,94,95,102,103,104,105,108,115,116,117,120,127,128,129,132,139,140,141,144,151,152,153,156,163,164,165,168,170,171,173,174,175,178,179,180,183,184,185,188,189,190,193,194,195,198,199,200,203,204,205,207,208,210,211,212,214,215,217,218,219,221,222,224,225,226,228,229,231,232,233,236,237,238,240,241,243,244,245,248,249,250,252,253,255,256,257,259,260,262,263,264,267,268,269,272,273,274,277,278,279,281,282,284,285,286,289,290,291,293,294,296,297,298,301,302,303,305,306,308,309,310,312,313,315,316,317,320,321,322,324,325,327,328] (fun _=>by kernel_rfl))
 (case hw=>w_witness2)
 (case hl=>exact K16.hlok)
 k_fill
 refine K16.walk (l:=PySem.Challenge.rw_nearreach_k16_books_looked_at) rfl rfl (fun w h Y=>PySem.W.kIn_of Y) ?F
 case F =>
  intro w mg fa h KX G hmg
  refine' K16.awo KX G hmg ?_ ?_ ?_ ?_ ?_ ?_ ?_ ?_ ?_ ?_ ?_ ?_ ?_ ?_ ?_ ?_ ?_ ?_ ?_ ?_ ?_ ?_ ?_ ?_ ?_ ?_ ?_ ?_ ?_ ?_ ?_ ?_ ?_ ?_ ?_ ?_ ?_ ?_ ?_ ?xg_NoBook ?xg_TooHeavy ?xg_ReachError ?xg_NoPlace ?xg_NoShape ?xg_TooMany ?xc_NoBook ?xk_NoBook ?xe_NoBook_ReachError ?xi_NoBook_ValueError ?xi_NoBook_TooHeavy ?xi_NoBook_NoBook ?xi_NoBook_NoPlace_NoShape_TooMany ?xc_TooHeavy ?xk_TooHeavy ?xe_TooHeavy_ReachError ?xi_TooHeavy_ValueError ?xi_TooHeavy_TooHeavy ?xi_TooHeavy_NoBook ?xi_TooHeavy_NoPlace_NoShape_TooMany ?_ ?_ ?_ ?_ ?_ ?_ ?_ ?_ ?_ ?_ ?_ ?_ ?_ ?_ ?_ ?_ ?y1 ?y2 ?y3
  all_goals first | k_is | exact ⟨_,_,_,_,_,_,_,_,_,by k_is,by k_is,by k_is,by k_is⟩ | skip
  (case xc_NoBook=>exact L2.ai4 (by kernel_rfl))
  (case xk_NoBook=>constructor<;>first | k_is | kernel_rfl)
  (case xe_NoBook_ReachError=>kernel_rfl)
  (case xi_NoBook_ValueError=>kernel_rfl)
  (case xi_NoBook_TooHeavy=>kernel_rfl)
  (case xi_NoBook_NoBook=>kernel_rfl)
  (case xi_NoBook_NoPlace_NoShape_TooMany=>kernel_rfl)
  (case xc_TooHeavy=>exact L2.ai4 (by kernel_rfl))
  (case xk_TooHeavy=>constructor<;>first | k_is | kernel_rfl)
  (case xe_TooHeavy_ReachError=>kernel_rfl)
  (case xi_TooHeavy_ValueError=>kernel_rfl)
  (case xi_TooHeavy_TooHeavy=>kernel_rfl)
  (case xi_TooHeavy_NoBook=>kernel_rfl)
  (case xi_TooHeavy_NoPlace_NoShape_TooMany=>kernel_rfl)
  try (case y1=>k_is)
  try (case y2=>k_is)
  try (case y3=>k_is)
