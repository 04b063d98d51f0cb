import PyProof.Rows.All
import Wide.All
import OpenK.AllK
import Wide.FinOn
import Lean
import PyProof.EqAt
import PyProof.EqKinds
import PyProof.TupleCall
import PyProof.ListStr
import PyProof.TupleOfStr
import PyProof.ConsumeWalk
import PyProof.SliceStr2
import PyProof.CompUse
import PyProof.Rows.SetFrom
import PyProof.SetRoads
import PyProof.StrLawsIn
import PyProof.Rows.StrIndexOr
import PyProof.Rows.StrJoin2
import PyProof.Rows.SumAny
import PyProof.WalkInts
import PyProof.SeqI3
import PyProof.Draws
import PyProof.ZipIter
import PyProof.EnumMake
import Wide.Txt2
import PyProof.Rows.SortWalk
import PyProof.ListRange
import PyProof.Rows.Range3
import KE.KStateDown
import PyProof.ReprRoads
import PyProof.CallFns
import PyProof.WalksMore
import KE.KTryDeep
import PyProof.ExcBaseAll.ValueError
import KE.KTryMore
import KE.KIsNot
import PyProof.ExcAttrAll.ValueError
import PyProof.NsDelKeeps
import PySem.SetOps
import PyProof.SetScanFacts
import PyProof.Walks
import PyProof.CollectWalk
import PyProof.SumWalk
import PyProof.SeqWrite
import KE.KRevIter
import PyProof.CollectIter
import PyProof.WalksS
import KE.IntBitsLaws
import PyProof.AutoSeq1
import PySem.Challenge.RW_nearreach_k19_books_changed
set_option compiler.extract_closed false
set_option bootstrap.genMatcherCode false
set_option genSizeOf false
noncomputable section
set_option Elab.async false
set_option linter.all false
set_option maxRecDepth 100000
set_option maxHeartbeats 4000000
section
open PySem PySem.W PyProof.Rows
theorem K19.said:PySem.Challenge.rw_nearreach_k19_books_changed.wellSaid=true:=by kernel_rfl
def K19.hq:Program:=view PySem.Challenge.pw_nearreach_k19_books_changed [PySem.Challenge.pw_nearreach_k19_books_changed.main.body.length - 1]
def K19.hl:List Str:=PySem.Challenge.pw_nearreach_k19_books_changed.boundNames
local macro_rules | `(tactic| o_head $H) => `(tactic| refine PySem.W.holds_open (q:=K19.hq) (loose:=K19.hl) (Xt:=fun _=>true) (XP:=fun _ _=>True) (Yf:=Hook.obs $H) (Ya:=Hook.val $H) (YP:=Hook.says $H) (N:=20000) ?hl (Hook.of $H) (Hook.keeps $H) (fun _ _=>trivial) (fun _ _ _ _ _=>trivial) (by rfl) (by rfl) (by rfl) (fun _ _=>recFacts_nil rfl) (by rfl) (by assumption) (by decide +kernel) ⟨rfl,rfl,rfl,rfl,rfl,by decide +kernel⟩ ?hw ?hc)
set_option maxRecDepth 100000 in
set_option maxHeartbeats 0 in
theorem K19.A (hyp:∀ p:Prop,p):PySem.Challenge.rw_nearreach_k19_books_changed.Holds:=by
 w_on;refine holds_law K19.said fun said=>?_;k_head
 all_goals exact hyp _
set_option maxRecDepth 100000 in
set_option maxHeartbeats 0 in
theorem K19.hlok:LeftO PySem.Challenge.rw_nearreach_k19_books_changed.row.prog K19.hq K19.hl (fun _=>true) (Hook.obs (kHook K19.A.heap_1 [2,3,15,17,18,20,21,22,24,25,27,28,29,31,32,34,35,36,38,39,41,42,43,46,47,48,50,51,53,54,55,57,58,60,61,62,64,65,67,68,69,71,72,74,75,76,78,79,81,82,83,86,87,88,90,91,93,94,95,102,103,104,105,108,115,116,117,120,127,128,129,132,139,140,141,144,151,152,153,156,163,164,165,168,170,171,173,174,175,178,179,180,183,184,185,188,189,190,193,194,195,198,199,200,202,203,205,206,207,209,210,212,213,214,216,217,219,220,221,223,224,226,227,228,231,232,233,235,236,238,239,240,242,243,245,246,247,249,250,252,253,254,256,257,259,260,261,264,265,266,268,269,271,272,273,276,277,278,280,281,283,284,285,287,288,290,291,292,295,296,297,300,301,302,305,306,307,309,310,312,313,314,317,318,319,321,322,324,325,326,329,330,331,333,334,336,337] (fun _=>by kernel_rfl))) (Hook.val (kHook K19.A.heap_1 [2,3,15,17,18,20,21,22,24,25,27,28,29,31,32,34,35,36,38,39,41,42,43,46,47,48,50,51,53,54,55,57,58,60,61,62,64,65,67,68,69,71,72,74,75,76,78,79,81,82,83,86,87,88,90,91,93,94,95,102,103,104,105,108,115,116,117,120,127,128,129,132,139,140,141,144,151,152,153,156,163,164,165,168,170,171,173,174,175,178,179,180,183,184,185,188,189,190,193,194,195,198,199,200,202,203,205,206,207,209,210,212,213,214,216,217,219,220,221,223,224,226,227,228,231,232,233,235,236,238,239,240,242,243,245,246,247,249,250,252,253,254,256,257,259,260,261,264,265,266,268,269,271,272,273,276,277,278,280,281,283,284,285,287,288,290,291,292,295,296,297,300,301,302,305,306,307,309,310,312,313,314,317,318,319,321,322,324,325,326,329,330,331,333,334,336,337] (fun _=>by kernel_rfl))) 20000:=by
 intro w;kernel_rfl
end
abbrev Fg:=PySem.W.Frag
def a6:=@List.getElem?_eq_getElem
def a8:=@Nat.le_refl
def a9:=@List.length_append
def ae:=@List.getElem?_eq_some_iff
def af:=@Bool.and_eq_true
def ag:=@PySem.wpAny_bind
def ah:=@congrArg
def ai:=@if_pos
def ar:=@Eq.trans
def av:=@decide_eq_false
def aw:=@decide_eq_true
def ax:=@List.size_toArray
def ay:=@List.length_singleton
def aE:=@List.length_map
def aI:=@List.mem_singleton
def aJ:=@PySem.Heap.get?_push_of_some
def aK:=@List.getElem?_append_right
def aL:=@if_neg
def aM:=@List.length_cons
def aN:=@PySem.wpAny_pure
def aO:=@List.all_eq_true
def aP:=@List.mem_cons_of_mem
def aQ:=@Option.map_eq_some_iff
def aR:=@List.length_take
def aS:=@PySem.Heap.lt_size
def aT:=@Bool.false_ne_true
def aU:=@List.getElem?_append_left
def aV:=@List.mem_cons
def aW:=@Nat.lt_of_lt_of_le
def aX:=@List.mem_cons_self
def aY:=@List.length_drop
def aZ:=@List.getD_eq_getElem?_getD
def b6:=@List.map_cons
def b9:=@decide_eq_true_eq
def bb:=@PySem.Heap.get?_push_size
def bg:=@List.length_nil
def bo:=@List.getElem_mem
def bp:=@PySem.W.mg_none_of
def bq:=@List.mem_of_getElem?
def br:=@List.mem_append_right
def bA:=@PySem.W.mg_of
def bB:=@List.take_of_length_le
def bC:=@List.nodup_append
def bD:=@List.all_cons
def bE:=@Nat.zero_le
def bF:=@List.mem_map
def bG:=@List.mem_append
def bH:=@Nat.le_trans
def bI:=@of_decide_eq_true
def bJ:=@List.filterMap_cons
def bK:=@Option.some.inj
def bL:=@List.length_range
def bM:=@Bool.true_and
def bN:=@beq_eq_false_iff_ne
def bO:=@PySem.wpAny_mono
def bP:=@List.append_nil
def bQ:=@PyProof.Rows.slot_tuple_getitem
def bR:=@List.nil_append
def bS:=@PySem.W.kia_one
def bU:=@PySem.wpAny_truthy_bool
def bV:=@List.getElem?_map
def bW:=@List.flatten_cons
def bX:=@List.pairwise_iff_getElem
def bY:=@Nat.ne_of_lt
def bZ:=@Nat.mul_le_mul_right
def c4:=@Bool.false_eq_true
def c5:=@PySem.mem_of_lookup
def c6:=@List.mem_range
def c8:=@List.not_mem_nil
def c9:=@List.append_assoc
def cf:=@List.getElem?_of_mem
def cA:=@List.getElem?_set_self
def cB:=@List.drop_eq_nil_of_le
def cC:=@List.map_append
def cD:=@PySem.wpAny_holding
def cE:=@Bool.and_true
def cF:=@decide_eq_decide
def cG:=@Nat.lt_irrefl
def cH:=@List.getElem?_set_ne
def cI:=@List.replicate_succ
def cJ:=@List.drop_eq_getElem_cons
def cK:=@List.map_map
def cM:=@beq_self_eq_true
def cN:=@List.map_nil
def cO:=@Bool.and_false
def cP:=@List.nodup_cons
def cQ:=@Bool.eq_iff_iff
def cR:=@Bool.or_eq_true
def cT:=@List.mem_filterMap
def cU:=@List.all_nil
def cV:=@Int.emod_lt_of_pos
def cW:=@PySem.wpAny_passesOwn
def cX:=@PySem.wpAny_newObj_type
def cY:=@List.length_set
def cZ:=@not_true_eq_false
def da:=@List.map_id'
def de:=@PySem.wpAny_standAt
def dA:=@List.getElem?_replicate
def dB:=@if_true
def dC:=@Bool.false_and
def dD:=@List.nodup_nil
def dE:=@PySem.wpAny_Call_Name_kw
def dF:=@PySem.wpAny_execs_nil
def dG:=@List.length_replicate
def dH:=@List.foldl_cons
def dI:=@Nat.succ_mul
def dJ:=@List.all_map
def dM:=@PySem.F.called_set
def dO:=@Int.emod_nonneg
def dP:=@Int.toNat_natCast
def dQ:=@if_false
def dR:=@Bool.not_eq_true'
def dS:=@List.sum_cons
def dU:=@List.mem_append_left
def dW:=@Ne.symm
def dX:=@Array.length_toList
def dY:=@List.mem_map_of_mem
def dZ:=@eq_false_of_ne_true
def e7:=@PySem.call_meets
def e8:=@PySem.wpAny_callSpecial?_slot
def e9:=@List.getElem?_cons_zero
def eh:=@PyProof.Rows.F.plain_set_update_loop
def ei:=@List.length_eq_zero_iff
def el:=@List.getElem?_take
def eA:=@Int.eq_ofNat_of_zero_le
def eB:=@List.all_append
def eC:=@PySem.Heap.get?_update_other
def eD:=@PySem.Str.length_append
def eE:=@PySem.Heap.size_push
def eF:=@or_false
def eG:=@PySem.codeAny_mono
def eH:=@Nat.add_comm
def eI:=@List.filterMap_append
def eJ:=@List.singleton_append
def eK:=@Nat.zero_add
def eL:=@decide_false
def eM:=@List.take_append_drop
def eN:=@PySem.Around.in1_units
def eO:=@List.mem_flatten
def eP:=@List.cons_append
def eQ:=@List.take_append_of_le_length
def eR:=@PySem.Calls.evalArgs_plain
def eS:=@PySem.codeAny_call_builtin
def eT:=@List.mem_of_mem_take
def eU:=@Bool.or_false
def eV:=@beq_iff_eq
def eW:=@PyProof.Rows.callWith_type1
def eX:=@PySem.wpAny_field
def eY:=@PySem.codeAny_builtin
def eZ:=@List.map_eq_nil_iff
def ff:=@PySem.F.attrBase_ValueError
def fg:=@decide_true
def fh:=@Int.fdiv_eq_ediv_of_nonneg
def fk:=@PySem.F.excBase_ValueError
def fq:=@List.nodup_iff_pairwise_ne
def fv:=@PySem.wpAny_typeOf
def fw:=@PySem.W.KFB.if_not
def fz:=@List.take_zero
def fA:=@List.mem_take_iff_getElem
def fB:=@PySem.W.kitx_dict
def fD:=@Option.isSome_iff_exists
def fE:=@PySem.F.args_tuple_add_2
def fF:=@PySem.wpAny_sequenceKey
def fG:=@PySem.StrLaws.found_one
def fH:=@List.pairwise_map
def fI:=@List.Pairwise.imp_of_mem
def fJ:=@PySem.sizeLine_eq
def fK:=@PySem.F.entry_tuple_add
def fL:=@List.any_cons
def fM:=@Bool.false_or
def fN:=@decide_eq_false_iff_not
def fO:=@PySem.wpAny_execs_cons
def fP:=@PySem.noFill_tuple_add
def fQ:=@PySem.wpAny_call_entry
def fR:=@Option.getD_none
def fS:=@List.lookup_cons
def fT:=@List.of_mem_zip
def fU:=@PySem.seqIndex_neg
def fV:=@Bool.true_or
def fW:=@Nat.min_eq_left
def fX:=@Nat.succ.inj
def fY:=@Nat.pow_succ
def fZ:=@Option.map_some
def gc:=@List.drop_zero
def gp:=@PySem.seqIndex_of
def gu:=@Nat.mod_mul
def gv:=@Nat.add_assoc
open PySem PySem.Spec
namespace L2
open PyProof.Rows
abbrev Key:=Sum Int Str
noncomputable def arn:Key->Value->Bool
 |.inl k,v=>Value.isInt k v
 |.inr x,v=>Value.isStrOf x v
noncomputable def b0m(w:World):Key->Int
 |.inl k=>hashInt k
 |.inr x=>hashStr w x
theorem o9:∀{k:Key} {v:Value},arn k v=true->(∃i t,k=Sum.inl i/\v=Value.int i t)\/(∃x t,k=Sum.inr x/\v=Value.str x t)
 |.inl i,v,h=>by
  obtain⟨t,e⟩:=Value.isInt_shape (k:=i) (v:=v) h;exact .inl ⟨i,t,rfl,e⟩
 |.inr x,v,h=>by
  obtain⟨t,e⟩:=Value.isStrOf_shape (x:=x) (v:=v) h;exact .inr ⟨x,t,rfl,e⟩
theorem aro(a b:Int):decide ((Sum.inl a:Key)=Sum.inl b)=(a == b):=by
 by_cases e:a=b
 .subst e;simp
 .have h:¬ (Sum.inl a:Key)=Sum.inl b:=λq=>e (Sum.inl.inj q);rw[av h];exact(bN.mpr e).symm
theorem arp(a b:Str):decide ((Sum.inr a:Key)=Sum.inr b)=decide (a=b):=by
 by_cases e:a=b
 .subst e;simp
 .have h:¬ (Sum.inr a:Key)=Sum.inr b:=λq=>e (Sum.inr.inj q);rw[av h,av e]
theorem arq(a:Int)(b:Str):decide ((Sum.inl a:Key)=Sum.inr b)=false:=av (λq=>nomatch q)
theorem ars(a:Str)(b:Int):decide ((Sum.inr a:Key)=Sum.inl b)=false:=av (λq=>nomatch q)
noncomputable def a5t(prog:Program)(w:World):PySem.KeyKind prog w Key where
 is:=arn
 hash:=b0m w
 inj:=λv a b ha hb=>by
  rcases o9 ha with⟨i,t,rfl,rfl⟩|⟨x,t,rfl,rfl⟩
  .rcases o9 hb with⟨j,u,rfl,e⟩|⟨y,u,rfl,e⟩
   .injection e with e1 _;rw[e1]
   .exact nomatch e
  .rcases o9 hb with⟨j,u,rfl,e⟩|⟨y,u,rfl,e⟩
   .exact nomatch e
   .injection e with e1 _;rw[e1]
 byValue:=λk v h=>by
  rcases o9 h with⟨i,t,rfl,rfl⟩|⟨x,t,rfl,rfl⟩<;>rfl
 pyHash:=λhv h=>by
  rcases o9 hv with⟨i,t,rfl,rfl⟩|⟨x,t,rfl,rfl⟩
  .exact wpAny_pyHash_int h
  .exact wpAny_pyHash_str h
 eqBool:=λhu hv h=>by
  rcases o9 hu with⟨i,t,rfl,rfl⟩|⟨x,t,rfl,rfl⟩
  .rcases o9 hv with⟨j,u,rfl,rfl⟩|⟨y,u,rfl,rfl⟩
   .rw[aro]at h;exact wpAny_eqBool_int h
   .rw[arq]at h;exact SeqAt.EqAt.int_str i t y u _ _ _ _ h
  .rcases o9 hv with⟨j,u,rfl,rfl⟩|⟨y,u,rfl,rfl⟩
   .rw[ars]at h;exact SeqAt.EqAt.str_int x t j u _ _ _ _ h
   .rw[arp]at h;exact wpAny_eqBool_str h
 «strs»:=λk x t v h=>by
  rcases o9 h with⟨i,u,rfl,e⟩|⟨y,u,rfl,e⟩
  .exact nomatch e
  .injection e with e1 _
   subst e1
   cases v<;>rfl
inductive V where
 |non|bl (b:Bool)|int (i:Int)|str (x:Str)|byt (b:Array UInt8)|flt (b:UInt64)|ref (a:Addr)|ty (n:String)
 deriving DecidableEq
def RelV:V->Value->Prop
 |.non,u=>u=Value.none
 |.bl b,u=>u=Value.bool b
 |.int i,u=>∃t,u=Value.int i t
 |.str x,u=>∃t,u=Value.str x t
 |.byt b,u=>∃t,u=Value.bytes b t
 |.flt b,u=>∃t,u=Value.float b t
 |.ref a,u=>u=Value.ref a
 |.ty n,u=>u=Value.type n
abbrev Vals:List V->List Value->Prop:=Paired RelV
theorem Vals.length(r:Vals xs us):xs.length=us.length:=Paired.length r
theorem Vals.get:∀{xs:List V} {us:List Value} {i:Nat} {x:V},Vals xs us->xs[i]? = some x->∃u,us[i]? = some u/\RelV x u
 |_,_,_,_,.nil,e=>by simp at e
 |_,_,0,_,.cons r _,e=>by simp at e;subst e;exact⟨_,rfl,r⟩
 |_,_,i+1,x,.cons _ t,e=>by
  obtain⟨u,h1,h2⟩:=Vals.get (i:=i) (x:=x) t (by simpa using e)
  exact⟨u,by simpa using h1,h2⟩
theorem Vals.set(r:RelV x u):∀{xs:List V} {us:List Value} (i:Nat),Vals xs us->Vals (xs.set i x) (us.set i u)
 |_,_,_,.nil=>.nil
 |_,_,0,.cons _ t=>.cons r t
 |_,_,i+1,.cons q t=>.cons q (Vals.set r i t)
theorem Vals.append:∀{xs ys:List V} {us ws:List Value},Vals xs us->Vals ys ws->Vals (xs++ys) (us++ws)
 |_,_,_,_,.nil,s=>s
 |_,_,_,_,.cons r t,s=>.cons r (Vals.append t s)
theorem Vals.take:∀{xs:List V} {us:List Value} (n:Nat),Vals xs us->Vals (xs.take n) (us.take n)
 |_,_,0,_=>.nil
 |_,_,_+1,.nil=>.nil
 |_,_,n+1,.cons r t=>.cons r (Vals.take n t)
theorem Vals.drop:∀{xs:List V} {us:List Value} (n:Nat),Vals xs us->Vals (xs.drop n) (us.drop n)
 |_,_,0,r=>r
 |_,_,_+1,.nil=>.nil
 |_,_,n+1,.cons _ t=>Vals.drop n t
def axl:Option V->Option Value->Prop
 |some v,some u=>RelV v u
 |none,none=>True
 |_,_=>False
def KV{κ:Type}:List (κ×V)->List (κ×Value)->Prop:=Paired λ(p:κ×V) (q:κ×Value)=>p.1=q.1/\RelV p.2 q.2
def kV:Key->V
 |.inl i=>.int i
 |.inr x=>.str x
def TupD(h:Heap)(a:Addr)(aC:Array Value):Prop:=∃o,h.get? a=some o/\(o.cls=.type "tuple"/\o.dict=none)/\∃n,o.data=.seq aC n
theorem TupD.r{h:Heap}{a:Addr}{i:Array Value}(x:TupD h a i):IsTup h a i:=let ⟨o,e,c,d⟩:=x; ⟨o,e,c.1,d⟩
theorem TupD.new(h:Heap)(i:Array Value):TupD (h.push {cls:=.type "tuple",data:=.seq i}) h.objs.size i:=⟨_,bb _ rfl,⟨rfl,rfl⟩,_,rfl⟩
inductive HO where
 |lst (xs:List V)
 |tup (xs:List V)
 |dK (kvs:List (Key×V))|dT (kvs:List (List Key×V))
 |set (S:Int->Bool) (n:Nat)
 |ins (C dx:Addr) (fs:List (Str×V))
 |own (x:Addr)
 |xd (fs:List (Str×V))
 |met (f x:Addr)
 |rng (lo hi:Int)
 |frz (o:Obj) (u:HO)
 |tbl (ps:Array Value)
 |ext (φ:Heap->Prop)
abbrev Hp:=Addr->Option HO
noncomputable def upd(H:Hp)(a:Addr)(o:HO):Hp:=λb=>if b=a then some o else H b
theorem oh:upd H a o a=some o:=by unfold upd;rw[ai rfl]
theorem jk(h:b≠a):upd H a o b=H b:=by unfold upd;rw[aL h]
theorem jb{H:Hp}{a b:Addr}{o:HO}(h:H a=some o)(h':H b=none):a≠b:=by
 intro e;subst e;rw[h]at h';cases h'
section
variable(P:Program)(w:World)
def ObjOk(H:Hp)(h:Heap)(a:Addr):HO->Prop
 |.lst xs=>xs.length<=sizeLine/\∃(its:List Value) (n:Nat),Vals xs its/\h.get? a=some {cls:=.type "list",data:=.seq its.toArray n}
 |.tup xs=>xs.length<=sizeLine/\∃its:List Value,Vals xs its/\TupD h a its.toArray
 |.dK kvs=>kvs.length<=sizeLine/\(a == sysModules)=false/\∃vs,KV kvs vs/\h.DictOf (a5t P w) a vs
 | .dT kvs=>kvs.length<=sizeLine/\(a == sysModules)=false/\∃xs:List (List Key×Addr×Value),
   Paired (λ(p:List Key×V) (q:List Key×Addr×Value)=>p.1=q.1/\H q.2.1=some (.tup (p.1.map kV))/\RelV p.2 q.2.2) kvs xs /\
   ∃o es ep,h.get? a=some o/\o.ExactDict/\o.data=.dict es ep/\es.toList=xs.map (entryOfKey (tupleKind (a5t P w)))/\(xs.map (·.1)).Nodup
 |.set S n=>h.SetOf (intKind P w) a S n
 | .ins C dx fs=>H dx=some (.own a)/\fs.length<=1000/\dx≠a/\h.get? a=some (PySem.W.instObj C dx) /\
   ∃mA,h.Ns1 dx mA/\(∀f,axl (fs.lookup f) (mA f))/\PySem.Within mA (fs.map (·.1))
 |.own _=>∃o,h.get? a=some o
 |.xd fs=>∃mA,h.Ns1 a mA/\∀f,axl (fs.lookup f) (mA f)
 |.rng lo hi=>∃t u v,h.get? a=some {cls:=.type "range",data:=.fields #[.int lo t,.int hi u,.int 1 v]}
 |.frz o u=>h.get? a=some o/\ObjOk H h a u
 |.tbl ps=>h.get? a=some {cls:=.none,data:=.fields ps}
 |.met f x=>h.get? a=some (PySem.W.methodObj (.ref f) (.ref x))
 |.ext φ=>φ h/\(∃o,h.get? a=some o)/\∀h1 h2:Heap,φ h1->(∀o,h1.get? a=some o->h2.get? a=some o)->φ h2
def HOk(H:Hp)(h:Heap):Prop:=∀a o,H a=some o->ObjOk P w H h a o
end
section
variable{P:Program}{w:World}{H H':Hp}{h h':Heap}{a:Addr}{o:HO}
theorem ObjOk.lt(x:ObjOk P w H h a o):a<h.objs.size:=by
 cases o with
 |lst xs=>obtain⟨_,_,_,_,e⟩:=x;exact aS e
 |tup xs=>obtain⟨_,_,_,p⟩:=x;exact p.r.lt
 |dK kvs=>obtain⟨_,_,_,_,o,_,_,e,_⟩:=x;exact aS e
 |dT kvs=>obtain⟨_,_,_,_,o,_,_,e,_⟩:=x;exact aS e
 |set S n=>obtain⟨o,_,_,_,e,_⟩:=x;exact aS e
 |ins C dx fs=>obtain⟨_,_,_,e,_⟩:=x;exact aS e
 |own y=>obtain⟨_,e⟩:=x;exact aS e
 |xd fs=>obtain⟨_,⟨_,_,_,e,_⟩,_⟩:=x;exact aS e
 |rng lo hi=>obtain⟨_,_,_,e⟩:=x;exact aS e
 |frz ob u=>obtain⟨e,_⟩:=x;exact aS e
 |tbl ps=>exact aS (show h.get? a=some _ from x)
 |met f y=>exact aS (show h.get? a=some _ from x)
 |ext φ=>obtain⟨_,⟨_,e⟩,_⟩:=x;exact aS e
theorem Paired.mapP{α β:Type}{F G:α->β->Prop}:∀{l₁:List α} {l₂:List β},Paired F l₁ l₂->(∀a b,F a b->G a b)->Paired G l₁ l₂
 |_,_,.nil,_=>.nil
 |_,_,.cons r t,f=>.cons (f _ _ r) (Paired.mapP t f)
theorem ObjOk.stay(x:ObjOk P w H h a o)(k:∀b u,(b=a\/H b=some (.own a))->h.get? b=some u->h'.get? b=some u)
  (ho:∀b,H b=some (.own a)->H' b=some (.own a)) (ht:∀b xs,H b=some (.tup xs)->H' b=some (.tup xs)):ObjOk P w H' h' a o:=by
 induction o with
 |lst xs=>obtain⟨z,its,n,r,e⟩:=x;exact⟨z,its,n,r,k _ _ (.inl rfl) e⟩
 |tup xs=>obtain⟨z,its,r,ob,e,c⟩:=x;exact⟨z,its,r,ob,k _ _ (.inl rfl) e,c⟩
 |dK kvs=>obtain⟨z,y,vs,r,ob,es,ep,e,c⟩:=x;exact⟨z,y,vs,r,ob,es,ep,k _ _ (.inl rfl) e,c⟩
 |dT kvs =>
  obtain⟨z,y,xs,r,ob,es,ep,e,c⟩:=x;exact⟨z,y,xs,Paired.mapP r λp q z=>⟨z.1,ht _ _ z.2.1,z.2.2⟩,ob,es,ep,k _ _ (.inl rfl) e,c⟩
 |set S n=>obtain⟨ob,es,ep,t,e,c⟩:=x;exact⟨ob,es,ep,t,k _ _ (.inl rfl) e,c⟩
 |ins C dx fs =>
  obtain⟨d,z,ne,e,mA,⟨od,es,ep,e2,c⟩,r⟩:=x;exact⟨ho _ d,z,ne,k _ _ (.inl rfl) e,mA,⟨od,es,ep,k _ _ (.inr d) e2,c⟩,r⟩
 |own y=>obtain⟨ob,e⟩:=x;exact⟨ob,k _ _ (.inl rfl) e⟩
 |xd fs=>obtain⟨mA,⟨od,es,ep,e,c⟩,r⟩:=x;exact⟨mA,⟨od,es,ep,k _ _ (.inl rfl) e,c⟩,r⟩
 |rng lo hi=>obtain⟨t,u,v,e⟩:=x;exact⟨t,u,v,k _ _ (.inl rfl) e⟩
 |frz ob u ih=>obtain⟨e,q⟩:=x;exact⟨k _ _ (.inl rfl) e,ih q⟩
 |tbl ps =>
  have e:h.get? a=some {cls:=.none,data:=.fields ps}:=x;show h'.get? a=some {cls:=.none,data:=.fields ps};exact k a _ (.inl rfl) e
 |met f y =>
  have e:h.get? a=some (PySem.W.methodObj (.ref f) (.ref y)):=x;show h'.get? a=some (PySem.W.methodObj (.ref f) (.ref y));exact k a _ (.inl rfl) e
 |ext φ=>obtain⟨p,⟨o,e⟩,st⟩:=x;exact⟨st _ _ p λo q=>k _ _ (.inl rfl) q,⟨o,k _ _ (.inl rfl) e⟩,st⟩
theorem HOk.lt(x:HOk P w H h)(e:H a=some o):a<h.objs.size:=(x a o e).lt
theorem HOk.fresh(x:HOk P w H h)(e:h.objs.size<=a):H a=none:=by
 cases q:H a with
 |none=>rfl
 |some u=>exact absurd (aW (x.lt q) e) (cG _)
theorem HOk.kept(x:HOk P w H h)(k:∀b u,h.get? b=some u->h'.get? b=some u):HOk P w H h':=λa o e =>
 (x a o e).stay (λb u _ q=>k b u q) (λ_ q=>q) λ_ _ q=>q
theorem HOk.laid(x:HOk P w H h)(k:∀b u,h.get? b=some u->h'.get? b=some u)(hp:h.objs.size<=a)(new:ObjOk P w (upd H a o) h' a o):HOk P w (upd H a o) h':=λb u e=>by
 have hn:=x.fresh hp
 by_cases hb:b=a
 .subst hb;rw[oh]at e;cases e;exact new
 .rw[jk hb]at e;exact(x b u e).stay (λc v _ q=>k c v q) (λc q=>by rw[jk (jb q hn)];exact q) λc xs q=>by rw[jk (jb q hn)];exact q
end
def Rd(H:Hp)(a:Addr)(u:HO):Prop:=H a=some u\/∃o,H a=some (.frz o u)
theorem Rd.of(h:H a=some u):Rd H a u:=.inl h
theorem Rd.ok(r:Rd H a u)(x:HOk P w H h):ObjOk P w H h a u:=by
 rcases r with r|⟨o,r⟩
 .exact x a u r
 .obtain⟨_,q⟩:=x a _ r;exact q
def Mut:Option HO->Prop
 |some (.lst _)=>True
 |some (.dK _)=>True
 |some (.dT _)=>True
 |some (.set _ _)=>True
 |some (.ins _ _ _)=>True
 |some (.ext _)=>True
 |_=>False
section
variable{P:Program}{w:World}{H:Hp}{h h':Heap}{x e:Addr}{o':HO}
theorem HOk.write(ok:HOk P w H h)(mu:Mut (H x))(he:e=x\/H e=some (.own x))(k:∀b u,b≠e->h.get? b=some u->h'.get? b=some u)(heo:∃u,h'.get? e=some u)
  (new:ObjOk P w (upd H x o') h' x o'):HOk P w (upd H x o') h':=λb u q=>by
 have nown:∀c y,H c=some (.own y)->c≠x:=λc y r z=>by subst z;rw[r]at mu;exact mu
 have ntup:∀c xs,H c=some (.tup xs)->c≠x:=λc xs r z=>by subst z;rw[r]at mu;exact mu
 by_cases hb:b=x
 .subst hb;rw[oh]at q;cases q;exact new
 .rw[jk hb]at q
  by_cases hbe:b=e
  .have q':H b=some (.own x):=by
    rcases he with z|z
    .exact absurd (hbe.trans z) hb
    .rw[hbe];exact z
   rw[q]at q';cases q'
   obtain⟨v,hv⟩:=heo;exact⟨v,by rw[hbe];exact hv⟩
  .refine(ok b u q).stay (λc v hc r=>k c v ?_ r) (λc r=>by rw[jk (nown c b r)];exact r) λc xs r=>by rw[jk (ntup c xs r)];exact r
   rcases hc with rfl|hc
   .exact hbe
   .rintro rfl
    rcases he with z|z
    .exact nown c b hc z
    .rw[hc]at z;cases z;exact hb rfl
end
structure Un (fs ex:List Addr) (H H':Hp) (h h':Heap):Prop where
 keep:∀b o,h.get? b=some o->H b=none->b∉fs->b∉ex->h'.get? b=some o
 slot:∀b o,h.get? b=some o->H b=none->b∈fs->b∉ex->∃sl,h'.get? b=some {o with slots:=sl}
 free:∀b o,h.get? b=some o->H b=none->b∉ex->H' b=none
 there:∀b o,h.get? b=some o->b∉ex->∃o',h'.get? b=some o'
 tups:∀b xs,H b=some (.tup xs)->H' b=some (.tup xs)
 frzs:∀b o u,H b=some (.frz o u)->H' b=some (.frz o u)
 tbls:∀b ps,H b=some (.tbl ps)->∃more,H' b=some (.tbl (ps++more))
section
variable{fs fs' ex ex':List Addr}{H H1 H2:Hp}{h h1 h2 h':Heap}{a x e:Addr}{o:HO}
theorem Un.any(u:Un fs ex H H1 h h1)(q:h.get? b=some ob)(n:H b=none)(hx:b∉ex):∃sl,h1.get? b=some {ob with slots:=sl}:=by
 by_cases hb:b∈fs
 .exact u.slot b ob q n hb hx
 .exact⟨ob.slots,u.keep b ob q n hb hx⟩
theorem Un.kept(k:∀b u,h.get? b=some u->h'.get? b=some u):Un fs ex H H h h' :=
 ⟨λb ob q _ _ _=>k b ob q,λb ob q _ _ _=>⟨ob.slots,k b ob q⟩,λ_ _ _ n _=>n,λb ob q _=>⟨ob,k b ob q⟩,λ_ _ q=>q,λ_ _ _ q=>q,λ_ ps q=>⟨#[],by rw[q];simp⟩⟩
theorem Un.refl:Un fs ex H H h h:=Un.kept λ_ _ q=>q
theorem Un.laid(k:∀b u,h.get? b=some u->h'.get? b=some u)(hp:h.objs.size<=a)(hn:H a=none):Un fs ex H (upd H a o) h h' where
 keep:=λb u q _ _ _=>k b u q
 slot:=λb u q _ _ _=>⟨u.slots,k b u q⟩
 free:=λb u q n _=>by rw[jk (bY (aW (aS q) hp))];exact n
 there:=λb u q _=>⟨u,k b u q⟩
 tups:=λb xs q=>by rw[jk (jb q hn)];exact q
 frzs:=λb u xs q=>by rw[jk (jb q hn)];exact q
 tbls:=λb ps q=>⟨#[],by rw[jk (jb q hn),q];simp⟩
theorem Un.write(mu:Mut (H x))(he:e=x\/H e=some (.own x))(k:∀b u,b≠e->h.get? b=some u->h'.get? b=some u)(heo:∃u,h'.get? e=some u):Un fs ex H (upd H x o) h h':=by
 have hx:∀b,H b=none->b≠x:=λb n z=>by subst z;rw[n]at mu;exact mu
 have hb:∀b,H b=none->b≠e:=λb n z=>by
  subst z
  rcases he with r|r
  .exact hx b n r
  .rw[n]at r;cases r
 have hm:∀b u,H b=some u->¬ Mut (some u)->b≠x:=λb u q nm z=>by subst z;rw[q]at mu;exact nm mu
 refine⟨λb u q n _ _=>k b u (hb b n) q,λb u q n _ _=>⟨u.slots,k b u (hb b n) q⟩,λb u q n _=>by rw[jk (hx b n)];exact n,λb u q _=>?_,
  λb xs q=>by rw[jk (hm b _ q λz=>z)];exact q,λb u xs q=>by rw[jk (hm b _ q λz=>z)];exact q,λb ps q=>⟨#[],by rw[jk (hm b _ q λz=>z),q];simp⟩⟩
 by_cases hbe:b=e
 .subst hbe;exact heo
 .exact⟨u,k b u hbe q⟩
end
noncomputable def trk(h:Heap)(H:Hp):List Addr:=(List.range h.objs.size).filter λa=>(H a).isSome
noncomputable def aj3(h:Heap)(H:Hp):Heap:=PySem.W.hideAll h (trk h H)
theorem af6(h:Heap)(H:Hp):(aj3 h H).objs.size=h.objs.size:=PySem.W.hideAll_size _ _
theorem aj4{h:Heap}(e:h.get? b=some o)(n:H b=none):(aj3 h H).get? b=some o :=
 PySem.W.hideAll_get _ e λhm=>by
  have q:(H b).isSome=true:=(List.mem_filter.mp hm).2;rw[n]at q;simp at q
theorem ao6(e:(aj3 h H).get? b=some o):h.get? b=some o/\H b=none:=by
 have e':h.get? b=some o:=PySem.W.of_hideAll (trk h H) e;refine⟨e',?_⟩
 cases q:H b with
 |none=>rfl
 |some x =>
  have hm:b∈trk h H:=List.mem_filter.mpr ⟨c6.mpr (aS e'),by simp[q]⟩
  have z:(aj3 h H).get? b=none:=PySem.W.hideAll_none (trk h H) hm;rw[z]at e;cases e
noncomputable def ao7(g h:Heap)(L:Addr):List (Addr×Obj):=(List.range h.objs.size).filterMap λa=>if a=L\/(g.get? a).isSome=true then none else (h.get? a).map λo=>(a,o)
noncomputable def aG(g h:Heap)(L d:Addr):List (Addr×Obj):=(ao7 g h L).filter λp=>decide (p.1≠d)
structure Mod (K:Fg) (mg:Str->Option Value) (base:Heap):Prop where
 kin:K.In base
 glob:base.Ns mainGlobals mg
 blt:∃mb,base.Ns builtinsNs mb/\∀x:Str,x ≠ "__name__"->mb x=bootBuiltins x
 nolimit:base.NoLimit
structure Cx where
 prog:Program
 w:World
 K:Fg
 mg:Str->Option Value
 base:Heap
 A:Around
 N:List Str
 s₀:Shared
 H₀:Hp
 env:Env
 outer:List Env
 stack:List Env
 ex:List Addr
 fn:Str->Bool
 calm:Bool
 pn:List (Addr×Obj)
 xe:Value->Shared->Prop
noncomputable def frs(l:List Env):List Addr:=l.filterMap (·.frame)
abbrev Cx.fs(X:Cx):List Addr:=frs X.outer
def Vis(sc:Scope)(x:Str):Prop:=sc.names.lookup x=some .local\/sc.names.lookup x=some .cell\/sc.names.lookup x=some .free
def Loc(sc:Scope)(x:Str):Prop:=sc.names.lookup x=some .local\/sc.names.lookup x=some .cell
def Look(env:Env)(h:Heap)(m:Str->Option Value)(x:Str)(u:Value):Prop :=
 (env.kindOf x=some .local/\m x=some u)\/((env.kindOf x=some .cell\/env.kindOf x=some .free)/\∃c,env.cells.lookup x=some c/\h.IsCell c (some u))
structure Cx.Ok (X:Cx):Prop where
 mod:Mod X.K X.mg X.base
 kind:X.env.scope.kind=.function
 glob:X.env.globals=mainGlobals
 blt:X.env.builtins=builtinsNs
 above:X.s₀.heap.objs.size<=X.env.locals
 inj:∀x y c,X.env.cells.lookup x=some c->X.env.cells.lookup y=some c->x=y
 has:∀x,(X.env.kindOf x=some .cell\/X.env.kindOf x=some .free)->∃c,X.env.cells.lookup x=some c
 cab:∀x c,X.fn x=true->X.env.cells.lookup x=some c->X.s₀.heap.objs.size<=c
 hd:X.calm=true->X.A.handled=none
 frames:X.A.frames=some X.stack
 stk:X.stack=X.outer\/(X.stack=X.env::X.outer/\X.env.frame=some X.env.locals)
 exf:∀b∈X.ex,b≠X.env.locals/\∀x c,X.env.cells.lookup x=some c->c≠b
 bs:∀b o,X.base.get? b=some o->X.s₀.heap.get? b=some o/\X.H₀ b=none
 bsz:X.base.objs.size<=X.s₀.heap.objs.size
 noex:∀b o,X.base.get? b=some o->b∉X.ex
 exfs:∀b∈X.ex,b∉X.fs
 funs:X.s₀.heap.FunFrames X.base X.outer
 frf:∀b∈X.fs,X.H₀ b=none
structure Inv (X:Cx) (aA:List (Addr×Obj)) (σ:List (Option V)) (H:Hp) (s:Shared):Prop where
 ok:X.Ok
 os:s.os=X.s₀.os
 bare:AllBare s.gens
 base:Un X.fs X.ex X.H₀ H X.s₀.heap s.heap
 loc:∃m,s.heap.Ns X.env.locals m/\∀(i:Nat) (x:Str) (v:V),X.N[i]? = some x->σ[i]? = some (some v)->Vis X.env.scope x->∃u,RelV v u/\Look X.env s.heap m x u
 cell:∀x c,X.env.cells.lookup x=some c->∃v,s.heap.IsCell c v
 free:H X.env.locals=none
 freeC:∀x c,X.env.cells.lookup x=some c->H c=none
 pin:∀p∈X.pn++aA,s.heap.get? p.1=some p.2/\H p.1=none/\p.1≠X.env.locals/\p.1∉X.fs/\∀v,p.2.data≠.cell v
 hok:HOk X.prog X.w H s.heap
 len:σ.length=X.N.length
section
variable{X:Cx}{aA:List (Addr×Obj)}{σ:List (Option V)}{H H':Hp}{s:Shared}{h':Heap}
theorem Cx.Ok.nofr(ok:X.Ok)(e:X.base.get? b=some o):b∉X.fs:=λhb=>by
 have:=(ok.funs.mem hb).1
 rw[e]at this;cases this
theorem Inv.bs(I:Inv X aA σ H s):∀b o,X.base.get? b=some o->s.heap.get? b=some o/\H b=none:=λb o e =>
 ⟨I.base.keep b o (I.ok.bs b o e).1 (I.ok.bs b o e).2 (I.ok.nofr e) (I.ok.noex b o e),I.base.free b o (I.ok.bs b o e).1 (I.ok.bs b o e).2 (I.ok.noex b o e)⟩
theorem Inv.bk(I:Inv X aA σ H s):∀b o,X.base.get? b=some o->s.heap.get? b=some o:=λb o e=>(I.bs b o e).1
theorem Inv.mod(I:Inv X aA σ H s):Mod X.K X.mg X.base:=I.ok.mod
theorem Inv.kIn(I:Inv X aA σ H s):X.K.In s.heap:=I.ok.mod.kin.keeps I.bk
theorem Inv.lt(I:Inv X aA σ H s):X.env.locals<s.heap.objs.size:=let ⟨_,hn,_⟩:=I.loc;hn.lt
theorem Inv.sz(I:Inv X aA σ H s):X.s₀.heap.objs.size<=s.heap.objs.size:=bH I.ok.above (Nat.le_of_lt I.lt)
theorem Inv.nofs(I:Inv X aA σ H s)(h:s.heap.objs.size<=a):a∉X.fs:=λhb=>by
 obtain⟨_,o,ho,_⟩:=I.ok.funs.mem hb;exact absurd (aW (aS ho) (bH I.sz h)) (cG _)
theorem Inv.cne(I:Inv X aA σ H s):∀x c,X.env.cells.lookup x=some c->c≠X.env.locals:=λx c e z=>by
 obtain⟨v,o,ho,hd⟩:=I.cell x c e;obtain⟨m,⟨o',es,ep,ho',hd',_⟩,_⟩:=I.loc;rw[z,ho']at ho;cases ho;rw[hd']at hd;cases hd
theorem Inv.funs(I:Inv X aA σ H s):s.heap.FunFrames X.base X.outer:=by
 have all:∀(l:List Env),(∀b∈frs l,b∈X.fs)->X.s₀.heap.FunFrames X.base l->s.heap.FunFrames X.base l:=by
  intro l
  induction l with
  |nil=>intro _ _;trivial
  |cons env r ih =>
   intro hs hl
   obtain⟨hk,⟨L,o,hf,hn,ho,hd⟩,hr⟩:=hl;have hL:L∈X.fs:=hs L (by unfold frs;rw[bJ,hf];exact aX)
   obtain⟨sl,e⟩:=I.base.slot L o ho (I.ok.frf L hL) hL λz=>I.ok.exfs L z hL;exact⟨hk,⟨L,_,hf,hn,e,hd⟩,ih (λb hb=>hs b (by unfold frs;rw[bJ,hf];exact aP _ hb)) hr⟩
 exact all X.outer (λ_ hb=>hb) I.ok.funs
theorem Inv.stack(I:Inv X aA σ H s):s.heap.FunFrames X.base X.stack:=by
 rcases I.ok.stk with e|⟨e,hf⟩
 .rw[e];exact I.funs
 .rw[e];obtain⟨m,hn,_⟩:=I.loc;refine .cons (by rw[I.ok.kind];decide) hf hn ?_ I.funs
  exact Heap.get?_none_of_le (bH I.ok.bsz I.ok.above)
theorem Inv.stkSub(I:Inv X aA σ H s):∀b∈frs X.stack,b∈X.env.locals::X.fs:=λb hb=>by
 rcases I.ok.stk with e|⟨e,hf⟩
 .rw[e]at hb;exact aP _ hb
 .rw[e]at hb;unfold frs at hb;rw[bJ,hf]at hb;exact hb
theorem Inv.stkFree(I:Inv X aA σ H s):∀b∈frs X.stack,H b=none:=λb hb=>by
 rcases aV.mp (I.stkSub b hb) with e|hb
 .rw[e];exact I.free
 .obtain⟨_,o,ho,_⟩:=I.ok.funs.mem hb;exact I.base.free b o ho (I.ok.frf b hb) λz=>I.ok.exfs b z hb
theorem Inv.step{g':Array GenState}{t':Nat}{d':Drawn}{ch:List Addr}(I:Inv X aA σ H s)
  (hch:∀b∈ch,(b∈X.ex\/X.s₀.heap.objs.size<=b)/\b≠X.env.locals/\(∀x c,X.env.cells.lookup x=some c->c≠b)/\∀p∈X.pn++aA,p.1≠b)
  (keep:∀b o,b≠X.env.locals->b∉X.fs->b∉ch->s.heap.get? b=some o->H b=none->h'.get? b=some o)
  (slot:∀b o,b≠X.env.locals->b∈X.fs->b∉ch->s.heap.get? b=some o->H b=none->∃sl,h'.get? b=some {o with slots:=sl}) (free:∀b o,b∉ch->s.heap.get? b=some o->H b=none->H' b=none)
  (there:∀b o,b∉ch->s.heap.get? b=some o->∃o',h'.get? b=some o')
  (tups:∀b xs,H b=some (.tup xs)->H' b=some (.tup xs)) (frzs:∀b o u,H b=some (.frz o u)->H' b=some (.frz o u)) (tbls:∀b ps,H b=some (.tbl ps)->∃more,H' b=some (.tbl (ps++more)))
  (ns:∀m,s.heap.Ns X.env.locals m->h'.Ns X.env.locals m) (hok:HOk X.prog X.w H' h') (hg:AllBare g') :
  Inv X aA σ H' {s with heap:=h',gens:=g',drawn:=d',toks:=t' }:=by
 have neL:∀b o,X.s₀.heap.get? b=some o->b≠X.env.locals:=λb o e=>bY (aW (aS e) I.ok.above);have neC:∀b o,X.s₀.heap.get? b=some o->b∉X.ex->b∉ch:=λb o e hx hb=>by
  rcases(hch b hb).1 with z|z
  .exact hx z
  .exact absurd (aW (aS e) z) (cG _)
 have cellK:∀x c,X.env.cells.lookup x=some c->∀v,s.heap.IsCell c v->h'.IsCell c v:=λx c e v ⟨o,ho,hd⟩=>by
  have nch:c∉ch:=λz=>(hch c z).2.2.1 x c e rfl
  by_cases hc:c∈X.fs
  .obtain⟨sl,q⟩:=slot c o (I.cne x c e) hc nch ho (I.freeC x c e);exact⟨_,q,hd⟩
  .exact⟨o,keep c o (I.cne x c e) hc nch ho (I.freeC x c e),hd⟩
 refine⟨I.ok,I.os,hg,⟨λb o e n hb hx=>?_,λb o e n hb hx=>?_,λb o e n hx=>?_,λb o e hx=>?_,λb xs e=>tups b xs (I.base.tups b xs e),λb o xs e=>frzs b o xs (I.base.frzs b o xs e),λb ps e=>?_⟩,?_,λx c e=>?_,?_,λx c e=>?_,λp hp=>?_,hok,I.len⟩
 .exact keep b o (neL b o e) hb (neC b o e hx) (I.base.keep b o e n hb hx) (I.base.free b o e n hx)
 .obtain⟨sl,e1⟩:=I.base.slot b o e n hb hx;obtain⟨sl',e2⟩:=slot b _ (neL b o e) hb (neC b o e hx) e1 (I.base.free b o e n hx);exact⟨sl',e2⟩
 .obtain⟨o',e1⟩:=I.base.there b o e hx;exact free b o' (neC b o e hx) e1 (I.base.free b o e n hx)
 .obtain⟨o',e1⟩:=I.base.there b o e hx;exact there b o' (neC b o e hx) e1
 .obtain⟨m1,e1⟩:=I.base.tbls b ps e;obtain⟨m2,e2⟩:=tbls b _ e1;exact⟨m1++m2,by rw[e2,Array.append_assoc]⟩
 .obtain⟨m,hn,hl⟩:=I.loc;refine⟨m,ns m hn,λi x v e1 e2 e3=>?_⟩;obtain⟨u,r,l⟩:=hl i x v e1 e2 e3;refine⟨u,r,?_⟩
  rcases l with l|⟨k,c,e,z⟩
  .exact .inl l
  .exact .inr ⟨k,c,e,cellK x c e _ z⟩
 .obtain⟨v,z⟩:=I.cell x c e;exact⟨v,cellK x c e v z⟩
 .obtain⟨m,⟨o,_,_,ho,_⟩,_⟩:=I.loc;exact free _ o (λz=>(hch _ z).2.1 rfl) ho I.free
 .obtain⟨v,o,ho,hd⟩:=I.cell x c e;exact free c o (λz=>(hch c z).2.2.1 x c e rfl) ho (I.freeC x c e)
 .obtain⟨e,n,ne,nf,d⟩:=I.pin p hp;have nch:p.1∉ch:=λz=>(hch p.1 z).2.2.2 p hp rfl;exact⟨keep p.1 p.2 ne nf nch e n,free p.1 p.2 nch e n,ne,nf,d⟩
theorem Inv.un{t':Nat}(I:Inv X aA σ H s)(u:Un X.fs [] H H' s.heap h')(hok:HOk X.prog X.w H' h'):Inv X aA σ H' {s with heap:=h',toks:=t' }:=by
 obtain⟨m,⟨o,es,ep,ho,r⟩,_⟩:=id I.loc;obtain⟨sl,hL⟩:=u.any ho I.free (by simp)
 exact I.step (g':=s.gens) (d':=s.drawn) (ch:=[]) (λ_ z=>nomatch z) (λb o _ hb _ e n=>u.keep b o e n hb (by simp)) (λb o _ hb _ e n=>u.slot b o e n hb (by simp)) (λb o _ e n=>u.free b o e n (by simp)) (λb o _ e=>u.there b o e (by simp)) u.tups u.frzs u.tbls (λm' hm=>by
  obtain⟨o',es',ep',ho',r'⟩:=hm;rw[ho]at ho';cases ho'
  exact⟨_,es',ep',hL,r'⟩) hok I.bare
theorem Inv.call{g':Array GenState}{t':Nat}{d':Drawn}{ch:List Addr}(I:Inv X aA σ H s)(u:Un (frs X.stack) ch H H' s.heap h')(hok:HOk X.prog X.w H' h')(hg:AllBare g')
  (hch:∀b∈ch,(b∈X.ex\/X.s₀.heap.objs.size<=b)/\b≠X.env.locals/\(∀x c,X.env.cells.lookup x=some c->c≠b)/\∀p∈X.pn++aA,p.1≠b) :
  Inv X aA σ H' {s with heap:=h',gens:=g',drawn:=d',toks:=t' }:=by
 obtain⟨m,⟨o,es,ep,ho,r⟩,_⟩:=id I.loc;obtain⟨sl,hL⟩:=u.any ho I.free λz=>(hch _ z).2.1 rfl;exact I.step (ch:=ch) hch (λb o hL hb hc e n=>u.keep b o e n (λz=>(aV.mp (I.stkSub b z)).elim hL hb) hc) (λb o _ _ hc e n=>u.any e n hc) (λb o hc e n=>u.free b o e n hc) (λb o hc e=>u.there b o e hc) u.tups u.frzs u.tbls (λm' hm=>by
  obtain⟨o',es',ep',ho',r'⟩:=hm;rw[ho]at ho';cases ho'
  exact⟨_,es',ep',hL,r'⟩) hok hg
theorem Inv.turned{t':Nat}{it:Addr}(I:Inv X aA σ H s)(k:∀b o,b≠it->s.heap.get? b=some o->h'.get? b=some o)(hn:H it=none)(hL:it≠X.env.locals)
  (h1:it∈X.ex\/X.s₀.heap.objs.size<=it) (h2:∀x c,X.env.cells.lookup x=some c->c≠it) (h3:∀p∈X.pn++aA,p.1≠it):Inv X aA σ H {s with heap:=h',toks:=t' }:=by
 have nit:∀b u,H b=some u->b≠it:=λb u e z=>by rw[z,hn]at e;cases e
 refine I.step (g':=s.gens) (d':=s.drawn) (ch:=[it]) (λb hb=>?_) (λb o _ _ hc e _=>k b o (λz=>hc (by simp[z])) e) (λb o _ _ hc e _=>⟨o.slots,k b o (λz=>hc (by simp[z])) e⟩) (λ_ _ _ _ n=>n)
  (λb o hc e=>⟨o,k b o (λz=>hc (by simp[z])) e⟩) (λ_ _ e=>e) (λ_ _ _ e=>e) (λb ps e=>⟨#[],by rw[e];simp⟩) (λm hm=>?_) (λb u e=>?_) I.bare
 .have e:b=it:=by simpa using hb
  subst e;exact⟨h1,hL,h2,h3⟩
 .obtain⟨o,es,ep,ho,r⟩:=hm;exact⟨o,es,ep,k _ o (dW hL) ho,r⟩
 .refine(I.hok b u e).stay (λc v hc q=>k c v ?_ q) (λ_ q=>q) λ_ _ q=>q
  rcases hc with z|z
  .rw[z];exact nit b u e
  .exact nit c _ z
theorem Inv.tok(I:Inv X aA σ H s)(t:Nat):Inv X aA σ H {s with toks:=t}:=I.un (h':=s.heap) (t':=t) Un.refl I.hok
theorem Inv.kept(I:Inv X aA σ H s)(k:∀b u,s.heap.get? b=some u->h'.get? b=some u):Inv X aA σ H {s with heap:=h',toks:=t' }:=I.un (Un.kept k) (I.hok.kept k)
theorem Inv.laid(I:Inv X aA σ H s)(k:∀b u,s.heap.get? b=some u->h'.get? b=some u)(hp:s.heap.objs.size<=a)(new:ObjOk X.prog X.w (upd H a o) h' a o) :
  Inv X aA σ (upd H a o) {s with heap:=h',toks:=t' }:=I.un (Un.laid k hp (I.hok.fresh hp)) (I.hok.laid k hp new)
theorem Inv.write(I:Inv X aA σ H s)(mu:Mut (H x))(he:e=x\/H e=some (.own x))(k:∀b u,b≠e->s.heap.get? b=some u->h'.get? b=some u)(heo:∃u,h'.get? e=some u)
  (new:ObjOk X.prog X.w (upd H x o) h' x o):Inv X aA σ (upd H x o) {s with heap:=h',toks:=t' }:=I.un (Un.write mu he k heo) (I.hok.write mu he k heo new)
theorem Inv.weak{σ':List (Option V)}(I:Inv X aA σ H s)(hl:σ'.length=σ.length)(w:∀(i:Nat) v,σ'[i]? = some (some v)->σ[i]? = some (some v)):Inv X aA σ' H s :=
 ⟨I.ok,I.os,I.bare,I.base,let ⟨m,hn,hl'⟩:=I.loc; ⟨m,hn,λi x v e1 e2 e3=>hl' i x v e1 (w i v e2) e3⟩,I.cell,I.free,I.freeC,I.pin,I.hok,hl.trans I.len⟩
theorem Inv.pins_of(I:Inv X aA σ H s)(h:∀p∈pins',s.heap.get? p.1=some p.2/\H p.1=none/\p.1≠X.env.locals/\p.1∉X.fs/\∀v,p.2.data≠.cell v):Inv X pins' σ H s :=
 ⟨I.ok,I.os,I.bare,I.base,I.loc,I.cell,I.free,I.freeC,λp hp=>(bG.mp hp).elim (λz=>I.pin p (dU _ z)) (h p),I.hok,I.len⟩
theorem a80{N:List Str}(hN:N.Nodup){i j:Nat}(a:N[i]? = some x)(b:N[j]? = some x):i=j:=by
 obtain⟨h1,e1⟩:=ae.mp a;obtain⟨h2,e2⟩:=ae.mp b;exact(List.getElem_inj hN).mp (e1.trans e2.symm)
abbrev Hf(X:Cx)(x:Str):Prop:=X.fn x=true\/X.env.scope.names.lookup x=some .local
theorem a96{i:Nat}(I:Inv X aA σ H s)(hN:X.N.Nodup)(hi:X.N[i]? = some x)(hx:Loc X.env.scope x)(r:RelV v u)
  (h:∀s',Inv X aA (σ.set i (some v)) H s'->(∃a,Heap.SameBut a s.heap s'.heap/\(a=X.env.locals\/X.env.cells.lookup x=some a))->Q () s') (hf:Hf X x:=by first|exact .inl rfl|exact .inr rfl|assumption):wpAny M A (storeName X.env x u) Q E s:=by
 obtain⟨m,hn,hl⟩:=id I.loc;have hcls:(X.env.scope.kind == .class || (X.env.scope.kind == .module && X.env.locals != X.env.globals))=false:=by rw[I.ok.kind];rfl
 have hiσ:i<σ.length:=by rw[I.len];exact(ae.mp hi).1
 have cne:=I.cne;have tracked:∀{a:Addr} {h':Heap},(∃o,s.heap.get? a=some o/\H a=none)->Heap.SameBut a s.heap h'->HOk X.prog X.w H h':=λ{a h'} ha hs b ob e=>by
  obtain⟨_,_,hfree⟩:=ha;refine(I.hok b ob e).stay (λc w' hc q=>(hs.2 c ?_).trans q) (λ_ q=>q) λ_ _ q=>q
  rintro rfl
  rcases hc with rfl|hc
  .rw[hfree]at e;cases e
  .rw[hfree]at hc;cases hc
 rcases hx with hk|hk
 .refine wpAny_storeName_local hk hn (λh' hn' hs=>?_) hcls;obtain⟨oL,_,_,hoL,_⟩:=id hn;refine h _ ⟨I.ok,I.os,I.bare,⟨λb o e n hb hx=>?_,λb o e n hb hx=>?_,I.base.free,λb o e hx=>?_,I.base.tups,I.base.frzs,I.base.tbls⟩,⟨_,hn',λj y v' e1 e2 e3=>?_⟩,λy c e=>?_,I.free,I.freeC,λp hp=>?_,tracked ⟨oL,hoL,I.free⟩ hs,by simpa using I.len⟩ ⟨_,hs,.inl rfl⟩
  .exact(hs.2 b (bY (aW (aS e) I.ok.above))).trans (I.base.keep b o e n hb hx)
  .obtain⟨sl,e1⟩:=I.base.slot b o e n hb hx;exact⟨sl,(hs.2 b (bY (aW (aS e) I.ok.above))).trans e1⟩
  .obtain⟨o',e1⟩:=I.base.there b o e hx;exact⟨o',(hs.2 b (bY (aW (aS e) I.ok.above))).trans e1⟩
  .by_cases hj:j=i
   .subst hj;rw[hi]at e1;cases e1
    rw[cA hiσ]at e2;cases e2
    exact⟨u,r,.inl ⟨hk,by simp⟩⟩
   .rw[cH (dW hj)]at e2;obtain⟨u',r',q⟩:=hl j y v' e1 e2 e3;refine⟨u',r',?_⟩
    rcases q with⟨k,e⟩|⟨k,c,e,z⟩
    .refine .inl ⟨k,?_⟩;have:y≠x:=λe=>hj (a80 hN e1 (e ▸ hi));simp[this,e]
    .exact .inr ⟨k,c,e,z.sameBut hs (cne y c e)⟩
  .obtain⟨w',z⟩:=I.cell y c e;exact⟨w',z.sameBut hs (cne y c e)⟩
  .obtain⟨e,n,ne,nf,d⟩:=I.pin p hp;exact⟨(hs.2 p.1 ne).trans e,n,ne,nf,d⟩
 .have hfn:X.fn x=true:=by
   rcases hf with z|z
   .exact z
   .rw[z]at hk;cases hk
  obtain⟨c,hc⟩:=I.ok.has x (.inl hk);obtain⟨w',z⟩:=I.cell x c hc;refine wpAny_storeName_cell I.ok.kind hk hc z (λh' hc' hs=>?_);obtain⟨oc,hoc,hocd⟩:=id z;refine h {s with heap:=h' } ⟨I.ok,I.os,I.bare,⟨λb o e n hb hx=>?_,λb o e n hb hx=>?_,I.base.free,λb o e hx=>?_,I.base.tups,I.base.frzs,I.base.tbls⟩,⟨m,hn.sameBut hs (dW (cne x c hc)),λj y v' e1 e2 e3=>?_⟩,λy c' e=>?_,I.free,I.freeC,λp hp=>?_,tracked ⟨oc,hoc,I.freeC x c hc⟩ hs,by simpa using I.len⟩ ⟨c,hs,.inr hc⟩
  .exact(hs.2 b (bY (aW (aS e) (I.ok.cab x c hfn hc)))).trans (I.base.keep b o e n hb hx)
  .obtain⟨sl,e1⟩:=I.base.slot b o e n hb hx;exact⟨sl,(hs.2 b (bY (aW (aS e) (I.ok.cab x c hfn hc)))).trans e1⟩
  .obtain⟨o',e1⟩:=I.base.there b o e hx;exact⟨o',(hs.2 b (bY (aW (aS e) (I.ok.cab x c hfn hc)))).trans e1⟩
  .by_cases hj:j=i
   .subst hj;rw[hi]at e1;cases e1
    rw[cA hiσ]at e2;cases e2
    exact⟨u,r,.inr ⟨.inl hk,c,hc,hc'⟩⟩
   .rw[cH (dW hj)]at e2;obtain⟨u',r',q⟩:=hl j y v' e1 e2 e3;refine⟨u',r',?_⟩
    rcases q with q|⟨k,c',e,z'⟩
    .exact .inl q
    .refine .inr ⟨k,c',e,z'.sameBut hs ?_⟩
     rintro rfl
     exact hj (a80 hN e1 (I.ok.inj _ _ _ e hc ▸ hi))
  .by_cases hcc:c'=c
   .subst hcc;exact⟨_,hc'⟩
   .obtain⟨w2,z2⟩:=I.cell y c' e;exact⟨w2,z2.sameBut hs hcc⟩
  .obtain⟨e,n,ne,nf,d⟩:=I.pin p hp;refine⟨(hs.2 p.1 ?_).trans e,n,ne,nf,d⟩
   intro q
   rw[q,hoc]at e;have q':oc=p.2:=bK e;exact d w' (by rw[<-q'];exact hocd)
theorem a3e(I:Inv X aA σ H s)(hN:X.N.Nodup)(hi:X.N[i]? = some x)(hx:Loc X.env.scope x)(r:RelV v u)
  (h:∀s',Inv X aA (σ.set i (some v)) H s'->Q () s') (hf:Hf X x:=by first|exact .inl rfl|exact .inr rfl|assumption):wpAny M A (storeName X.env x u) Q E s :=
 a96 I hN hi hx r (λs' I' _=>h s' I') hf
theorem Inv.call'{s':Shared}(I:Inv X aA σ H s)(ho:s'.os=s.os)(u:Un (frs X.stack) ch H H' s.heap s'.heap)(hok:HOk X.prog X.w H' s'.heap)(hg:AllBare s'.gens)
  (hch:∀b∈ch,(b∈X.ex\/X.s₀.heap.objs.size<=b)/\b≠X.env.locals/\(∀x c,X.env.cells.lookup x=some c->c≠b)/\∀p∈X.pn++aA,p.1≠b):Inv X aA σ H' s':=by
 obtain⟨h',g',d',t',o'⟩:=s';have e:o'=s.os:=ho;subst e;exact I.call (g':=g') (t':=t') (d':=d') u hok hg hch
end
abbrev XK:=Value->Option Addr->Hp->Prop
abbrev St:=List (Option V)
abbrev VK:=V->Hp->Prop
abbrev TE:=St->Hp->VK->Prop
abbrev TT:=St->Hp->(Bool->Hp->Prop)->Prop
abbrev TA:=St->Hp->(List V->Hp->Prop)->Prop
structure Ends where
 nx:St->Hp->Prop
 rt:VK
 bk:St->Hp->Prop:=λ_ _=>False
 ct:St->Hp->Prop:=λ_ _=>False
abbrev TS:=Ends->St->Hp->Prop
def EP(X:Cx)(aA:List (Addr×Obj))(σ:St)(Q:VK)(u:Value)(s':Shared):Prop:=∃v H',Inv X aA σ H' s'/\RelV v u/\Q v H'
def TP(X:Cx)(aA:List (Addr×Obj))(σ:St)(Q:Bool->Hp->Prop)(b:Bool)(s':Shared):Prop:=∃H',Inv X aA σ H' s'/\Q b H'
def AP(X:Cx)(aA:List (Addr×Obj))(σ:St)(Q:List V->Hp->Prop)(us:List Value)(s':Shared):Prop:=∃vs H',Inv X aA σ H' s'/\Vals vs us/\Q vs H'
def SP(X:Cx)(aA:List (Addr×Obj))(D:Ends)(f:Flow)(s':Shared):Prop :=
 match f with
 |.next=>∃σ' H',Inv X aA σ' H' s'/\D.nx σ' H'
 |.brk=>∃σ' H',Inv X aA σ' H' s'/\D.bk σ' H'
 |.cont=>∃σ' H',Inv X aA σ' H' s'/\D.ct σ' H'
 |.ret u=>∃v σ' H',Inv X aA σ' H' s'/\RelV v u/\D.rt v H'
def PE(X:Cx)(e:Expr)(t:TE):Prop :=
 ∀(aA:List (Addr×Obj)) (s:Shared) (σ:St) (H:Hp) (Q:VK),Inv X aA σ H s->t σ H Q->wpAny (model X.prog X.w) X.A (eval e X.env) (EP X aA σ Q) X.xe s
def PT(X:Cx)(e:Expr)(t:TT):Prop :=
 ∀(aA:List (Addr×Obj)) (s:Shared) (σ:St) (H:Hp) (Q:Bool->Hp->Prop),Inv X aA σ H s->t σ H Q->wpAny (model X.prog X.w) X.A (isTrue e X.env (eval e X.env)) (TP X aA σ Q) X.xe s
def PW(X:Cx)(e:Expr)(t:TT):Prop :=
 ∀(whole:Sem Value) (aA:List (Addr×Obj)) (s:Shared) (σ:St) (H:Hp) (Q:Bool->Hp->Prop),Inv X aA σ H s->t σ H Q->wpAny (model X.prog X.w) X.A (isTrue e X.env whole) (TP X aA σ Q) X.xe s
theorem PW.pt(h:PW X e t):PT X e t:=h _
def PA(X:Cx)(es:List Expr)(t:TA):Prop :=
 ∀(pos:Pos) (aA:List (Addr×Obj)) (s:Shared) (σ:St) (H:Hp) (Q:List V->Hp->Prop),Inv X aA σ H s->t σ H Q->wpAny (model X.prog X.w) X.A (spliced (backTo pos (starEach es X.env))) (AP X aA σ Q) X.xe s
def PS(X:Cx)(st:Stmt)(t:TS):Prop :=
 ∀(aA:List (Addr×Obj)) (s:Shared) (σ:St) (H:Hp) (D:Ends),Inv X aA σ H s->t D σ H->wpAny (model X.prog X.w) X.A (exec st X.env) (SP X aA D) X.xe s
def PSs(X:Cx)(st:List Stmt)(t:TS):Prop :=
 ∀(aA:List (Addr×Obj)) (s:Shared) (σ:St) (H:Hp) (D:Ends),Inv X aA σ H s->t D σ H->wpAny (model X.prog X.w) X.A (execs st X.env) (SP X aA D) X.xe s
theorem thn{α:Type}{t:Sem α}{Q Q':α->Shared->Prop}{M:Model}{A:Around}{E:Value->Shared->Prop}{s:Shared}(h:wpAny M A t Q E s)(hQ:∀a s,Q a s->Q' a s):wpAny M A t Q' E s:=bO h hQ λ_ _ x=>x
section
variable{X:Cx}
noncomputable def b0n(i:Nat):TE:=λσ H Q=>∃v,σ[i]? = some (some v)/\Q v H
def tC(v:V):TE:=λ_ H Q=>Q v H
theorem af7(hN:X.N[i]? = some x)(hv:Vis X.env.scope x)(hd:(x == ("__debug__" : Str))=false:=by decide)(hcd:(x == ("__classdict__" : Str))=false:=by decide):PE X (.Name x pos) (b0n i):=by
 intro aA s σ H Q I h
 obtain⟨v,e,h⟩:=h;obtain⟨m,hn,hl⟩:=I.loc;obtain⟨u,r,l⟩:=hl i x v hN e hv;have fin:EP X aA σ Q u s:=⟨v,H,I,r,h⟩
 rcases l with⟨hk,hm⟩|⟨hk,c,hc,hcell⟩
 .exact wpAny_Name (wpAny_loadName_local I.ok.kind hk hn hm fin) hd
 .rcases hk with hk|hk
  .exact wpAny_Name (wpAny_loadName_cell I.ok.kind hk hc hcell fin) hd
  .exact wpAny_Name (wpAny_loadName_free I.ok.kind hk hc hcell fin hcd) hd
theorem art{i j pos}:PE X (.Constant (.int i) j pos) (tC (.int i)):=λ_ _ _ H _ I h=>wpAny_Constant_int ⟨.int i,H,I.tok _,⟨_,rfl⟩,h⟩
theorem axm{b j pos}:PE X (.Constant (.bool b) j pos) (tC (.bl b)):=λ_ _ _ H _ I h=>Constant_bool ⟨.bl b,H,I,rfl,h⟩
theorem aru{j pos}:PE X (.Constant .none j pos) (tC .non):=λ_ _ _ H _ I h=>Constant_none ⟨.non,H,I,rfl,h⟩
theorem arv{x j pos}:PE X (.Constant (.str x) j pos) (tC (.str x)):=λ_ _ _ H _ I h=>Calls.Constant_str ⟨.str x,H,I.tok _,⟨_,rfl⟩,h⟩
def Gl(X:Cx)(x:Str):Prop:=X.env.kindOf x=some .globalImplicit
theorem a4g(I:Inv X aA σ H s)(hg:Gl X x)(hm:X.mg x=some u)(h:Q u s)
  (hd:(x == ("__debug__" : Str))=false:=by decide):wpAny (model X.prog X.w) X.A (eval (.Name x pos) X.env) Q E s :=
 Calls.Name_function_global I.ok.kind hg (Calls.loadGlobal_global (by rw[I.ok.glob];exact I.mod.glob.keeps I.bk) hm h) hd
theorem ack(I:Inv X aA σ H s)(hg:Gl X x)(hm:X.mg x=none)(hv:bootBuiltins x=some u)(h:Q u s)
  (hn:x ≠ "__name__":=by decide) (hd:(x == ("__debug__" : Str))=false:=by decide):wpAny (model X.prog X.w) X.A (eval (.Name x pos) X.env) Q E s:=by
 obtain⟨mb,h1,h2⟩:=I.mod.blt;exact Calls.Name_function_global I.ok.kind hg (Calls.loadGlobal_builtin (by rw[I.ok.glob];exact I.mod.glob.keeps I.bk) hm (by rw[I.ok.blt];exact h1.keeps I.bk) ((h2 x hn).trans hv) h) hd
theorem zm(hg:Gl X x)(hm:X.mg x=some u)(r:RelV v u)(hd:(x == ("__debug__" : Str))=false:=by decide):PE X (.Name x pos) (tC v) :=
 λ_ _ _ H _ I h=>a4g I hg hm ⟨v,H,I,r,h⟩ hd
theorem aau(hg:Gl X x)(hm:X.mg x=none)(hv:bootBuiltins x=some u)(r:RelV v u)(hn:x ≠ "__name__":=by decide)(hd:(x == ("__debug__" : Str))=false:=by decide):PE X (.Name x pos) (tC v) :=
 λ_ _ _ H _ I h=>ack I hg hm hv ⟨v,H,I,r,h⟩ hn hd
variable{a b:Expr}{ta tb:TE}{pos:Pos}
variable{tA tB':TT}{aG:List Expr}
noncomputable def b0o(t u:TT):TT:=λσ H Q=>t σ H λc H1=>if c=true then u σ H1 Q else Q false H1
noncomputable def tOr(t u:TT):TT:=λσ H Q=>t σ H λc H1=>if c=true then Q true H1 else u σ H1 Q
noncomputable def b0p(t:TT):TT:=λσ H Q=>t σ H λc H1=>Q (!c) H1
theorem ao8(ha:PT X a tA):PW X (.BoolOp .And [a] pos) tA:=by
 intro wh aA s σ H Q I h
 refine isTrue_and (thn (ha aA s σ H Q I h) λc s1 e=>?_)
 cases c with
 |true=>exact isTrue_and_nil e
 |false=>exact e
theorem arw(ha:PT X a tA):PW X (.BoolOp .Or [a] pos) tA:=by
 intro wh aA s σ H Q I h
 refine isTrue_or (thn (ha aA s σ H Q I h) λc s1 e=>?_)
 cases c with
 |false=>exact isTrue_or_nil e
 |true=>exact e
theorem arx(ha:PT X a tA)(hb:PW X (.BoolOp .And (b::aG) pos) tB'):PW X (.BoolOp .And (a::b::aG) pos) (b0o tA tB'):=by
 intro wh aA s σ H Q I h
 refine isTrue_and (thn (ha aA s σ H _ I h) λc s1 ⟨H1,I1,q1⟩=>?_)
 cases c with
 |true=>exact hb wh aA s1 σ H1 Q I1 q1
 |false=>exact⟨H1,I1,q1⟩
theorem axn(ha:PT X a tA)(hb:PW X (.BoolOp .Or (b::aG) pos) tB'):PW X (.BoolOp .Or (a::b::aG) pos) (tOr tA tB'):=by
 intro wh aA s σ H Q I h
 refine isTrue_or (thn (ha aA s σ H _ I h) λc s1 ⟨H1,I1,q1⟩=>?_)
 cases c with
 |true=>exact⟨H1,I1,q1⟩
 |false=>exact hb wh aA s1 σ H1 Q I1 q1
theorem arz(ha:PT X a tA):PT X (.UnaryOp .Not a pos) (b0p tA):=by
 intro aA s σ H Q I h
 exact isTrue_not (ha aA s σ H (λc H1=>Q (!c) H1) I h)
noncomputable def axo(ta tb:TE):TE:=λσ H Q=>ta σ H λx H1=>∃c,x=.bl c/\if c=true then tb σ H1 Q else Q (.bl false) H1
noncomputable def axp(ta:TE):TE:=λσ H Q=>ta σ H λx H1=>∃c,x=.bl c/\Q (.bl (!c)) H1
theorem as3{op}(h:PE X a t):PE X (.BoolOp op [a] pos) t:=λaA s σ H Q I hw=>BoolOp_one (h aA s σ H Q I hw)
theorem as4(ha:PE X a ta)(hb:PE X (.BoolOp .And (b::aG) pos) tb):PE X (.BoolOp .And (a::b::aG) pos) (axo ta tb):=by
 intro aA s σ H Q I h
 refine BoolOp_and (thn (ha aA s σ H _ I h) λv s1 ⟨x,H1,I1,r1,q1⟩=>?_);obtain⟨c,rfl,q1⟩:=q1;cases r1
 refine bU ?_
 cases c with
 |true=>exact hb aA s1 σ H1 Q I1 q1
 |false=>exact⟨.bl false,H1,I1,rfl,q1⟩
theorem as5(ha:PE X a ta):PE X (.UnaryOp .Not a pos) (axp ta):=by
 intro aA s σ H Q I h
 refine UnaryOp_ (thn (ha aA s σ H _ I h) λv s1 ⟨x,H1,I1,r1,q1⟩=>?_);obtain⟨c,rfl,q1⟩:=q1;cases r1
 exact not_of (bU ⟨.bl (!c),H1,I1,rfl,q1⟩)
noncomputable def tIf(t:TT)(ta tb:TE):TE:=λσ H Q=>t σ H λc H1=>if c=true then ta σ H1 Q else tb σ H1 Q
theorem aj5{c:Expr}(hc:PT X c tA)(ha:PE X a ta)(hb:PE X b tb):PE X (.IfExp c a b pos) (tIf tA ta tb):=by
 intro aA s σ H Q I h
 refine wpAny_IfExp (thn (hc aA s σ H _ I h) λd s1 ⟨H1,I1,q1⟩=>?_)
 cases d with
 |true=>exact ha aA s1 σ H1 Q I1 q1
 |false=>exact hb aA s1 σ H1 Q I1 q1
end
def SqL(K:Fg)(H:Hp)(a:Addr)(xs:List V):Prop :=
 Rd H a (.lst xs) \/
  ∃(o:Obj) (its:Array Value) (n:Nat),K.lookup a=some o/\o.cls=.type "list"/\o.dict=none/\o.data=.seq its n/\its.size<=sizeLine/\Vals xs its.toList
def SqT(K:Fg)(H:Hp)(a:Addr)(xs:List V):Prop :=
 Rd H a (.tup xs) \/
  ∃(o:Obj) (its:Array Value) (n:Nat),K.lookup a=some o/\o.cls=.type "tuple"/\o.data=.seq its n/\its.size<=sizeLine/\Vals xs its.toList
noncomputable def b0q:Value->Option V
 |.none=>some .non
 |.bool b=>some (.bl b)
 |.int i _=>some (.int i)
 |.str x _=>some (.str x)
 |.bytes b _=>some (.byt b)
 |.float b _=>some (.flt b)
 |.ref a=>some (.ref a)
 |.type n=>some (.ty n)
 |_=>none
theorem RelV.abs(r:RelV x u):b0q u=some x:=by
 cases x with
 |non=>cases r;rfl
 |bl _=>cases r;rfl
 |int _=>obtain⟨t,rfl⟩:=r;rfl
 |str _=>obtain⟨t,rfl⟩:=r;rfl
 |byt _=>obtain⟨t,rfl⟩:=r;rfl
 |flt _=>obtain⟨t,rfl⟩:=r;rfl
 |ref _=>cases r;rfl
 |ty _=>cases r;rfl
theorem RelV.inj(r:RelV x u)(q:RelV y u):x=y:=bK (r.abs.symm.trans q.abs)
theorem Vals.inj:∀{xs ys:List V} {us:List Value},Vals xs us->Vals ys us->xs=ys
 |_,_,_,.nil,.nil=>rfl
 |_,_,_,.cons r t,.cons r' t'=>by rw[r.inj r',Vals.inj t t']
section
variable{X:Cx}{aA:List (Addr×Obj)}{σ:St}{H:Hp}{s:Shared}{a:Addr}{xs ys:List V}
theorem SqL.of{K:Fg}(h:H a=some (.lst xs)):SqL K H a xs:=.inl (.inl h)
theorem SqT.of{K:Fg}(h:H a=some (.tup xs)):SqT K H a xs:=.inl (.inl h)
theorem Inv.list(I:Inv X aA σ H s)(h:SqL X.K H a xs):∃its:List Value,Vals xs its/\PlainL s.heap a its.toArray/\xs.length<=sizeLine:=by
 rcases h with h|⟨o,its,n,hk,hc,hd,hs,hz,r⟩
 .obtain⟨z,its,n,r,e⟩:=h.ok I.hok;exact⟨its,r,⟨_,n,e,rfl,rfl,rfl⟩,z⟩
 .refine⟨its.toList,r,⟨o,n,I.kIn a o hk,hc,hd,by simpa using hs⟩,?_⟩
  have e:=r.length;simp only[dX]at e;omega
theorem Inv.tuple(I:Inv X aA σ H s)(h:SqT X.K H a xs):∃its:List Value,Vals xs its/\IsTup s.heap a its.toArray/\xs.length<=sizeLine:=by
 rcases h with h|⟨o,its,n,hk,hc,hs,hz,r⟩
 .obtain⟨z,its,r,p⟩:=h.ok I.hok;exact⟨its,r,p.r,z⟩
 .refine⟨its.toList,r,⟨o,I.kIn a o hk,hc,n,by simpa using hs⟩,?_⟩
  have e:=r.length;simp only[dX]at e;omega
theorem Inv.list_inj(I:Inv X aA σ H s)(h:SqL X.K H a xs)(h':SqL X.K H a ys):xs=ys:=by
 obtain⟨its,r,⟨o,n,e,_,_,d⟩,_⟩:=I.list h;obtain⟨its',r',⟨o',n',e',_,_,d'⟩,_⟩:=I.list h';rw[e]at e';cases e'
 rw[d]at d'
 injection d' with d1 _
 have:its=its':=by simpa using ah Array.toList d1
 subst this;exact r.inj r'
theorem Inv.tuple_inj(I:Inv X aA σ H s)(h:SqT X.K H a xs)(h':SqT X.K H a ys):xs=ys:=by
 obtain⟨its,r,⟨o,e,_,n,d⟩,_⟩:=I.tuple h;obtain⟨its',r',⟨o',e',_,n',d'⟩,_⟩:=I.tuple h';rw[e]at e';cases e'
 rw[d]at d'
 injection d' with d1 _
 have:its=its':=by simpa using ah Array.toList d1
 subst this;exact r.inj r'
end
abbrev Cx.wish(X:Cx)(E:Value->Shared->Prop):Cx:={X with xe:=E}
abbrev Cx.nox(X:Cx):Cx:=X.wish λ_ _=>False
theorem Cx.Ok.wish{X:Cx}(ok:X.Ok)(E:Value->Shared->Prop):(X.wish E).Ok :=
 ⟨ok.mod,ok.kind,ok.glob,ok.blt,ok.above,ok.inj,ok.has,ok.cab,ok.hd,ok.frames,ok.stk,ok.exf,ok.bs,ok.bsz,ok.noex,ok.exfs,ok.funs,ok.frf⟩
theorem Cx.Ok.unwish{X:Cx}(ok:(X.wish E).Ok):X.Ok :=
 ⟨ok.mod,ok.kind,ok.glob,ok.blt,ok.above,ok.inj,ok.has,ok.cab,ok.hd,ok.frames,ok.stk,ok.exf,ok.bs,ok.bsz,ok.noex,ok.exfs,ok.funs,ok.frf⟩
section
variable{X:Cx}{aA:List (Addr×Obj)}{σ:St}{H:Hp}{s:Shared}{E:Value->Shared->Prop}
theorem Inv.wish(I:Inv X aA σ H s)(E:Value->Shared->Prop):Inv (X.wish E) aA σ H s:=⟨I.ok.wish E,I.os,I.bare,I.base,I.loc,I.cell,I.free,I.freeC,I.pin,I.hok,I.len⟩
theorem Inv.unwish(I:Inv (X.wish E) aA σ H s):Inv X aA σ H s:=⟨I.ok.unwish,I.os,I.bare,I.base,I.loc,I.cell,I.free,I.freeC,I.pin,I.hok,I.len⟩
theorem SP.unwish(h:SP (X.wish E) aA D f s'):SP X aA D f s':=by
 cases f with
 |next=>obtain⟨σ',H',I,q⟩:=h;exact⟨σ',H',I.unwish,q⟩
 |brk=>obtain⟨σ',H',I,q⟩:=h;exact⟨σ',H',I.unwish,q⟩
 |cont=>obtain⟨σ',H',I,q⟩:=h;exact⟨σ',H',I.unwish,q⟩
 |ret u=>obtain⟨v,σ',H',I,r,q⟩:=h;exact⟨v,σ',H',I.unwish,r,q⟩
theorem PSs.nox{st:List Stmt}{t:TS}(h:PSs X.nox st t):PSs X st t:=λaA s σ H D I hw =>
 bO (h aA s σ H D (I.wish _) hw) (λ_ _ q=>q.unwish) λ_ _ z=>False.elim z
end
section
variable{X:Cx}{st:Stmt}{aG:List Stmt}{t u:TS}{e:Expr}{te:TE}{pos:Pos}
def axq:TS:=λD σ H=>D.nx σ H
noncomputable def b0r(t u:TS):TS:=λD σ H=>t {D with nx:=u D} σ H
theorem ao9:PSs X [] axq:=λ_ _ σ H _ I h=>dF ⟨σ,H,I,h⟩
theorem aj6(h1:PS X st t)(h2:PSs X aG u):PSs X (st::aG) (b0r t u):=by
 intro aA s σ H D I h
 refine fO (thn (h1 aA s σ H {D with nx:=u D} I h) λf s1 q=>?_)
 cases f with
 |next =>
  obtain⟨σ',H',I',q⟩:=q;exact h2 aA s1 σ' H' D I' q
 |ret v=>exact q
 |brk=>exact q
 |cont=>exact q
theorem aoa(h1:PS X st t):PSs X [st] t:=by
 intro aA s σ H D I h
 refine fO (thn (h1 aA s σ H D I h) λf s1 q=>?_)
 cases f with
 |next=>exact dF q
 |ret v=>exact q
 |brk=>exact q
 |cont=>exact q
theorem Inv.quiet(I:Inv X aA σ H s):interactive X.env=false:=by simp[interactive,I.ok.kind]
noncomputable def axr(te:TE):TS:=λD σ H=>te σ H λ_ H1=>D.nx σ H1
theorem aob(he:PE X e te)(hs:swapsWith e none pos.line X.env=pure false:=by rfl):PS X (.Expr e pos) (axr te):=by
 intro aA s σ H D I h
 exact wpAny_Expr_any (thn (he aA s σ H _ I h) λv s1 ⟨x,H1,I1,r1,q1⟩=>⟨σ,H1,I1,q1⟩) I.quiet hs
def b0s(te:TE):TS:=λD σ H=>te σ H D.rt
theorem as6(he:PE X e te):PS X (.Return (some e) pos) (b0s te):=by
 intro aA s σ H D I h
 exact wpAny_Return_some (thn (he aA s σ H _ I h) λv s1 ⟨x,H1,I1,r1,q1⟩=>⟨x,σ,H1,I1,r1,q1⟩)
noncomputable def b0t(c:TT)(t u:TS):TS:=λD σ H=>c σ H λb H1=>if b=true then t D σ H1 else u D σ H1
theorem axs{c:Expr}{a b:List Stmt}{tc:TT}(hc:PT X c tc)(ha:PSs X a t)(hb:PSs X b u):PS X (.If c a b pos) (b0t tc t u):=by
 intro aA s σ H D I h
 refine wpAny_If (thn (hc aA s σ H _ I h) λd s1 ⟨H1,I1,q1⟩=>?_)
 cases d with
 |true=>exact ha aA s1 σ H1 D I1 q1
 |false=>exact hb aA s1 σ H1 D I1 q1
end
abbrev TG:=V->St->Hp->(St->Hp->Prop)->Prop
abbrev TGs:=List V->St->Hp->(St->Hp->Prop)->Prop
def PG(X:Cx)(target:Expr)(t:TG):Prop :=
 ∀(aA:List (Addr×Obj)) (s:Shared) (σ:St) (H:Hp) (v:V) (u:Value) (Q:St->Hp->Prop),Inv X aA σ H s->RelV v u->t v σ H Q->
  wpAny (model X.prog X.w) X.A (assign target X.env u) (λ_ s'=>∃σ' H',Inv X aA σ' H' s'/\Q σ' H') X.xe s
def PGs(X:Cx)(ts:List Expr)(t:TGs):Prop :=
 ∀(aA:List (Addr×Obj)) (s:Shared) (σ:St) (H:Hp) (vs:List V) (us:List Value) (Q:St->Hp->Prop),Inv X aA σ H s->Vals vs us->t vs σ H Q->
  wpAny (model X.prog X.w) X.A (assignInOrder ((assignEach ts X.env).map (·.2)) us) (λ_ s'=>∃σ' H',Inv X aA σ' H' s'/\Q σ' H') X.xe s
abbrev as7:=V->V->V->Hp->(Hp->Prop)->Prop
def axt(X:Cx)(t:as7):Prop :=
 ∀(aA:List (Addr×Obj)) (s:Shared) (σ:St) (H:Hp) (o i v:V) (ov iv u:Value) (Q:Hp->Prop),Inv X aA σ H s->RelV o ov->RelV i iv->RelV v u->t o i v H Q->
  wpAny (model X.prog X.w) X.A (setItem ov iv u) (λ_ s'=>∃H',Inv X aA σ H' s'/\Q H') X.xe s
abbrev TIp:=V->V->Hp->VK->Prop
def PIp(X:Cx)(op:Operator)(t:TIp):Prop :=
 ∀(aA:List (Addr×Obj)) (s:Shared) (σ:St) (H:Hp) (x y:V) (v u:Value) (Q:VK),Inv X aA σ H s->RelV x v->RelV y u->t x y H Q->
  wpAny (model X.prog X.w) X.A (inplaceOp op v u) (EP X aA σ Q) X.xe s
section
variable{X:Cx}{pos:Pos}
noncomputable def a71(i:Nat):TG:=λv σ H Q=>Q (σ.set i (some v)) H
theorem aav(hN:X.N.Nodup)(hi:X.N[i]? = some x)(hx:Loc X.env.scope x)(hf:Hf X x:=by first|exact .inl rfl|exact .inr rfl|assumption):PG X (.Name x pos) (a71 i):=by
 intro aA s σ H v u Q I r h
 exact wpAny_assign_Name (a3e I hN hi hx r (λs' I'=>⟨_,H,I',h⟩) hf)
def azx:TGs:=λvs σ H Q=>vs=[]/\Q σ H
noncomputable def aj7(t:TG)(u:TGs):TGs:=λvs σ H Q=>∃v r,vs=v::r/\t v σ H λσ' H'=>u r σ' H' Q
theorem aaw:PGs X [] azx:=by
 intro aA s σ H vs us Q I r h
 obtain⟨e,h⟩:=h;subst e;cases r
 exact assignInOrder_nil ⟨σ,H,I,h⟩
theorem a3f{e:Expr}{es:List Expr}{t:TG}{u:TGs}(h1:PG X e t)(h2:PGs X es u)
  (hs:(assignEach (e::es) X.env).map (·.2)=assign e X.env::(assignEach es X.env).map (·.2):=by rfl):PGs X (e::es) (aj7 t u):=by
 intro aA s σ H vs us Q I r h
 obtain⟨v,vr,e1,h⟩:=h;subst e1
 cases r with
 |cons r rr =>
  rw[hs];refine assignInOrder_cons (thn (h1 aA s σ H _ _ _ I r h) λ_ s1 ⟨σ1,H1,I1,q1⟩=>?_);exact h2 aA s1 σ1 H1 _ _ Q I1 rr q1
noncomputable def jl(K:Fg)(n:Nat)(t:TGs):TG:=λv σ H Q=>∃a xs,v=.ref a/\SqT K H a xs/\xs.length=n/\t xs σ H Q
theorem af8(hc:X.calm=true)(h:PGs X es t)
  (hn:(assignEach es X.env).length=n:=by rfl) (hst:(assignEach es X.env).findIdx? (·.1)=none:=by rfl):PG X (.Tuple es k pos) (jl X.K n t):=by
 intro aA s σ H v u Q I r hw
 obtain⟨a,xs,e1,hq,hl,hw⟩:=hw;subst e1;cases r
 obtain⟨its,rv,ht,hz⟩:=I.tuple hq;refine assign_Tuple_tuple (I.ok.hd hc) ht (by simp[hn,<-hl,rv.length]) hst λh' hx=>?_
 have I1:Inv X aA σ H {s with heap:=h' }:=I.kept (t':=s.toks) λb o e=>hx b o (bY (aS e)) e
 exact h aA _ σ H xs _ Q I1 (by simpa using rv) hw
noncomputable def a4e(to ti:TE)(t:as7):TG:=λv σ H Q=>to σ H λo H1=>ti σ H1 λi H2=>t o i v H2 λH3=>Q σ H3
theorem as8{o i:Expr}{to ti:TE}{t:as7}(ho:PE X o to)(hi:PE X i ti)(hs:axt X t)
  (ha:∀v,assign (.Subscript o i pos) X.env v=(do
   let ov <-holding [v] (eval o X.env)
   let iv <-holding [v,ov] (eval i X.env)
   standAt pos
   holding [v,ov,iv] (setItem ov iv v)
   release [v,ov,iv] []):=by intro _;rfl):PG X (.Subscript o i pos) (a4e to ti t):=by
 intro aA s σ H v u Q I r h
 rw[ha];refine ag (cD (thn (ho aA s σ H _ I h) λov s1 ⟨x,H1,I1,r1,q1⟩=>?_));refine ag (cD (thn (hi aA s1 σ H1 _ I1 q1) λiv s2 ⟨y,H2,I2,r2,q2⟩=>?_));refine ag (de (ag (cD (thn (hs aA s2 σ H2 x y v ov iv u _ I2 r1 r2 r q2) λ_ s3 ⟨H3,I3,q3⟩=>?_))));exact wpAny_release ⟨σ,H3,I3,q3⟩
noncomputable def aww(te:TE)(g:TG):TS:=λD σ H=>te σ H λx H1=>g x σ H1 D.nx
theorem af9{tg e:Expr}{te:TE}{g:TG}(he:PE X e te)(hg:PG X tg g)(hs:swapsWithSole [tg] e pos.line X.env=pure false:=by rfl)(hw:swappedStores [tg] e X.env=pure none:=by rfl)
  (h1:(assignEach [tg] X.env).map (·.2)=[assign tg X.env]:=by rfl):PS X (.Assign [tg] e pos) (aww te g):=by
 intro aA s σ H D I h
 refine wpAny_Assign_stores (thn (he aA s σ H _ I h) λv s1 ⟨x,H1,I1,r1,q1⟩=>?_) hs hw;rw[h1];exact thn (hg aA s1 σ H1 x v _ I1 r1 q1) λ_ s2 q=>q
theorem as9{i:Nat}{x:Str}{e:Expr}{te:TE}{pos':Pos}(hN:X.N.Nodup)(hi:X.N[i]? = some x)(hx:Loc X.env.scope x)(he:PE X e te)(hs:swapsWith e (some (.Name x pos')) pos.line X.env=pure false:=by rfl)(hf:Hf X x:=by first|exact .inl rfl|exact .inr rfl|assumption) :
  PS X (.Assign [.Name x pos'] e pos) (aww te (a71 i)):=by
 intro aA s σ H D I h
 refine wpAny_Assign_Name (thn (he aA s σ H _ I h) λv s1 ⟨y,H1,I1,r1,q1⟩=>?_) hs;exact a3e I1 hN hi hx r1 (λs2 I2=>⟨_,H1,I2,q1⟩) hf
noncomputable def b0u(i:Nat)(te:TE)(ti:TIp):TS:=λD σ H=>∃x,σ[i]? = some (some x)/\te σ H λy H1=>ti x y H1 λz H2=>D.nx (σ.set i (some z)) H2
theorem asa{i:Nat}{x:Str}{e:Expr}{te:TE}{op:Operator}{ti:TIp}{pos':Pos}(hN:X.N.Nodup)(hi:X.N[i]? = some x)(hx:Loc X.env.scope x)(he:PE X e te)(ho:PIp X op ti)(hf:Hf X x:=by first|exact .inl rfl|exact .inr rfl|assumption) :
  PS X (.AugAssign (.Name x pos') op e pos) (b0u i te ti):=by
 intro aA s σ H D I h
 obtain⟨v,e1,h⟩:=h;obtain⟨m,hn,hl⟩:=I.loc;have vis:Vis X.env.scope x:=by rcases hx with k|k;exact .inl k;exact .inr (.inl k)
 obtain⟨u,r,l⟩:=hl i x v hi e1 vis;refine wpAny_AugAssign_Name ?_;have go:wpAny (model X.prog X.w) X.A (eval e X.env) (λw s₂=>wpAny (model X.prog X.w) X.A (inplaceOp op u w) (λr s₃=>wpAny (model X.prog X.w) X.A (storeName X.env x r) (λ_=>SP X aA D .next) X.xe s₃) X.xe s₂) X.xe s:=by
  refine thn (he aA s σ H _ I h) ?_
  rintro w s1 ⟨y,H1,I1,r1,q1⟩
  refine thn (ho aA s1 σ H1 v y u w _ I1 r r1 q1) ?_
  rintro z s2 ⟨zv,H2,I2,r2,q2⟩
  exact a3e I2 hN hi hx r2 (λs3 I3=>⟨_,H2,I3,q2⟩) hf
 rcases l with⟨hk,hm⟩|⟨hk,c,hc,hcell⟩
 .exact wpAny_loadName_local I.ok.kind hk hn hm go
 .rcases hk with hk|hk
  .exact wpAny_loadName_cell I.ok.kind hk hc hcell go
  .rcases hx with k|k
   .have:X.env.scope.names.lookup x=some .free:=hk
    rw[k]at this;cases this
   .have:X.env.scope.names.lookup x=some .free:=hk
    rw[k]at this;cases this
def axu(to ti te:TE)(tget:V->V->Hp->VK->Prop)(tip:TIp)(tset:as7):TS:=λD σ H=>to σ H λo H1=>ti σ H1 λi H2=>tget o i H2 λx H3=>te σ H3 λy H4=>tip x y H4 λz H5=>tset o i z H5 λH6=>D.nx σ H6
def azy(X:Cx)(t:V->V->Hp->VK->Prop):Prop :=
 ∀(aA:List (Addr×Obj)) (s:Shared) (σ:St) (H:Hp) (o i:V) (ov iv:Value) (Q:VK),Inv X aA σ H s->RelV o ov->RelV i iv->t o i H Q->
  wpAny (model X.prog X.w) X.A (getItem ov iv) (EP X aA σ Q) X.xe s
theorem aoc{o i e:Expr}{to ti te:TE}{tget:V->V->Hp->VK->Prop}{tip:TIp}{tset:as7}{op:Operator}{tpos:Pos}(ho:PE X o to)(hi:PE X i ti)(hg:azy X tget)(he:PE X e te)(hp:PIp X op tip)(hs:axt X tset)
  (ha:∀ov iv new,augStore i ov iv new=(do holding [new,ov,iv] (setItem ov iv new);release [new,ov,iv] [];pure .next):=by intros;rfl):PS X (.AugAssign (.Subscript o i tpos) op e pos) (axu to ti te tget tip tset):=by
 intro aA s σ H D I h
 refine wpAny_AugAssign_SubscriptAny (thn (ho aA s σ H _ I h) λov s1 ⟨x1,H1,I1,r1,q1⟩=>?_) ha;refine thn (hi aA s1 σ H1 _ I1 q1) ?_
 rintro iv s2 ⟨x2,H2,I2,r2,q2⟩
 refine thn (hg aA s2 σ H2 x1 x2 ov iv _ I2 r1 r2 q2) ?_
 rintro old s3 ⟨x3,H3,I3,r3,q3⟩
 refine thn (he aA s3 σ H3 _ I3 q3) ?_
 rintro v s4 ⟨x4,H4,I4,r4,q4⟩
 refine thn (hp aA s4 σ H4 x3 x4 old v _ I4 r3 r4 q4) ?_
 rintro new s5 ⟨x5,H5,I5,r5,q5⟩
 exact thn (hs aA s5 σ H5 x1 x2 x5 ov iv new _ I5 r1 r2 r5 q5) λ_ s6 ⟨H6,I6,q6⟩=>⟨σ,H6,I6,q6⟩
end
section
variable{X:Cx}{pos:Pos}
def asb(c:TT)(tb:TS):TS:=λD σ H=>∃W:Nat->St->Hp->Prop,(∃m,W m σ H)/\∀m σ H,W m σ H->
 c σ H λb H1=>if b=true then ∃N:St->Hp->Prop,(∀σ' H',N σ' H'->∃m',m'<m/\W m' σ' H')/\tb {D with nx:=N,ct:=N,bk:=D.nx} σ H1 else D.nx σ H1
theorem aj8{c:Expr}{body:List Stmt}{tc:TT}{tb:TS}(hp:PassesOwn (model X.prog X.w) X.A X.env X.xe)(hc:PT X c tc)(hb:PSs X body tb):PS X (.While c body [] pos) (asb tc tb):=by
 intro aA s σ H D I h
 obtain⟨W,⟨m0,w0⟩,turn⟩:=h;refine wpAny_While (codeAny_whileLoop (λn s'=>∃σ' H',Inv X aA σ' H' s'/\W n σ' H') ?_ m0 ⟨σ,H,I,w0⟩)
 rintro n s1 ⟨σ1,H1,I1,w1⟩
 refine cW hp (thn (hc aA s1 σ1 H1 _ I1 (turn n σ1 H1 w1)) λb s2 ⟨H2,I2,q2⟩=>?_)
 cases b with
 |true =>
  obtain⟨N,hN,q2⟩:=q2;rw[ai rfl];refine cW hp (thn (hb aA s2 σ1 H2 _ I2 q2) λf s3 q3=>?_)
  cases f with
  |next =>
   obtain⟨σ3,H3,I3,n3⟩:=q3;obtain⟨m',hm,w3⟩:=hN σ3 H3 n3;exact⟨m',hm,σ3,H3,I3,w3⟩
  |cont =>
   obtain⟨σ3,H3,I3,n3⟩:=q3;obtain⟨m',hm,w3⟩:=hN σ3 H3 n3;exact⟨m',hm,σ3,H3,I3,w3⟩
  |brk=>exact q3
  |ret v=>exact q3
 |false =>
  rw[aL aT];exact dF ⟨σ1,H2,I2,q2⟩
end
structure It where
 go:Nat->Hp->Prop
 yld:Nat->Hp->V->Hp->Prop
 stop:Nat->Hp->Prop
def FpOk(X:Cx)(aA:List (Addr×Obj))(H:Hp)(b:Addr):Prop :=
 H b=none/\b≠X.env.locals/\b∉X.fs/\(b∈X.ex\/X.s₀.heap.objs.size<=b)/\(∀x c,X.env.cells.lookup x=some c->c≠b)/\∀p∈X.pn++aA,p.1≠b
theorem Inv.fpOk(I:Inv X aA σ H s)(hb:s.heap.objs.size<=b)(hn:H' b=none):FpOk X aA H' b:=by
 refine⟨hn,Nat.ne_of_gt (aW I.lt hb),I.nofs hb,.inr (bH I.sz hb),λx c e z=>?_,λp hp z=>?_⟩
 .obtain⟨v,q⟩:=I.cell x c e;exact absurd (aW q.lt (by rw[z];exact hb)) (cG _)
 .exact absurd (aW (aS (I.pin p hp).1) (by rw[z];exact hb)) (cG _)
structure Turn (P:Program) (w:World) (K:Fg) (tg:Expr) (J:It) (fp:List Addr) (it:Addr) (tn:Nat->Heap->Prop):Prop where
 mem:it∈fp
 obj:∀i h,tn i h->∀b∈fp,∃o,h.get? b=some o/\∀v,o.data≠.cell v
 keep:∀i h h',tn i h->(∀b∈fp,∀o,h.get? b=some o->h'.get? b=some o)->tn i h'
 item:∀(X:Cx),X.prog=P->X.w=w->X.K=K->X.calm=true->∀(i:Nat) (aA:List (Addr×Obj)) (s:Shared) (σ:St) (H:Hp) (E:Value->Shared->Prop),Inv X aA σ H s->(∀b∈fp,FpOk X aA H b)->tn i s.heap->J.go i H->
  wpAny (model P w) X.A (pyNext (.ref it)) (λr s1=>∃u,r=some u /\
   wpAny (model P w) X.A (letOwnedTupleGo tg (.ref it) u) (λ_ s2=>∃x H',Inv X aA σ H' s2/\RelV x u/\J.yld i H x H'/\tn (i+1) s2.heap/\∀b∈fp,H' b=none) E s1) E s
 done:∀(X:Cx),X.prog=P->X.w=w->X.K=K->X.calm=true->∀(i:Nat) (aA:List (Addr×Obj)) (s:Shared) (σ:St) (H:Hp) (E:Value->Shared->Prop),Inv X aA σ H s->(∀b∈fp,FpOk X aA H b)->tn i s.heap->J.stop i H->
  wpAny (model P w) X.A (pyNext (.ref it)) (λr s1=>r=none/\Inv X aA σ H s1) E s
 self:∀(A:Around) (i:Nat) (s:Shared) (Q:Value->Shared->Prop) (E:Value->Shared->Prop),tn i s.heap->Q (.ref it) s->wpAny (model P w) A (pyIter (.ref it)) Q E s
abbrev TI:=St->Hp->(It->Hp->Prop)->Prop
def PIE(X:Cx)(aA:List (Addr×Obj))(σ:St)(tg:Expr)(R:It->Hp->Prop)(itv:Value)(s2:Shared):Prop :=
 ∃(it:Addr) (fp:List Addr) (tn:Nat->Heap->Prop) (J:It) (H':Hp),itv=.ref it/\Inv X aA σ H' s2/\Turn X.prog X.w X.K tg J fp it tn/\tn 0 s2.heap/\(∀b∈fp,FpOk X aA H' b)/\R J H'
def PI(X:Cx)(tg aF:Expr)(wi:TI):Prop :=
 ∀(aA:List (Addr×Obj)) (s:Shared) (σ:St) (H:Hp) (R:It->Hp->Prop),Inv X aA σ H s->wi σ H R->
  wpAny (model X.prog X.w) X.A (eval aF X.env) (λv s1=>wpAny (model X.prog X.w) X.A (pyIter v) (PIE X aA σ tg R) X.xe s1) X.xe s
theorem aj9{s:Shared}(ho:s.heap.get? it=some o)(hc:o.cls=.type n)(hd:o.data=.fields vs)
  (hn:["enumerate","zip","dict_itemiterator","dict_reverseitemiterator","odict_iterator","itertools.zip_longest","itertools.pairwise"].contains n=false) (hQ:Q () s):wpAny M A (letOwnedTupleGo tg (.ref it) u) Q E s:=by
 unfold letOwnedTupleGo
 cases tg<;>first
  |exact aN hQ
  | (cases u<;>first
    |exact aN hQ
    | (refine ag (wpAny_load ho ?_)
       rw[hc,hd];show wpAny M A (if (["enumerate","zip","dict_itemiterator","dict_reverseitemiterator","odict_iterator","itertools.zip_longest","itertools.pairwise"].contains n && vs[0]? == some (rawInt _))=true then _ else _) Q E s
       rw[aL (by intro h;rw[hn,dC]at h;cases h)]
       exact aN hQ))
noncomputable def Itl(K:Fg)(a:Addr):It :=
 ⟨λi H=>∃xs x,SqL K H a xs/\xs[i]? = some x,λi H x H'=>H'=H/\∀xs,SqL K H a xs->xs[i]? = some x,λi H=>∃xs,SqL K H a xs/\xs.length<=i⟩
noncomputable def Itt(K:Fg)(a:Addr):It :=
 ⟨λi H=>∃xs x,SqT K H a xs/\xs[i]? = some x,λi H x H'=>H'=H/\∀xs,SqT K H a xs->xs[i]? = some x,λi H=>∃xs,SqT K H a xs/\xs.length<=i⟩
noncomputable def Itr(lo:Int)(n:Nat):It:=⟨λi _=>i<n,λi H x H'=>H'=H/\x=.int (lo+i),λi _=>n<=i⟩
theorem afa{P:Program}{w:World}{K:Fg}{tg:Expr}(a it:Addr):Turn P w K tg (Itl K a) [it] it (λi h=>h.IsListIter it a i) where
 mem:=by simp
 obj:=λi h st b hb=>by
  have e:b=it:=by simpa using hb
  subst e;obtain⟨o,e,c,d⟩:=st;exact⟨o,e,λv z=>by rw[d]at z;cases z⟩
 keep:=λi h h' st k=>st.at λo e=>k it (by simp) o e
 item:=by
  intro X hP hw hK hc i aA s σ H E I hf st hg
  subst hP hw hK;obtain⟨xs,x,hq,hx⟩:=hg;obtain⟨its,rv,p,hz⟩:=I.list hq;obtain⟨u,hu,ru⟩:=rv.get hx;obtain⟨f0,f1,f2,f3,f4,f5⟩:=hf it (by simp)
  refine wpAny_pyNext_list_item st p.isList (x:=u) (by simpa using hu) λh' st' sb=>?_
  have I1:Inv X aA σ H {s with heap:=h' }:=I.turned (t':=s.toks) (λb o hb e=>(sb.2 b hb).trans e) f0 f1 f3 f4 f5
  obtain⟨o,e,c,d⟩:=id st';exact⟨u,rfl,aj9 (s:={s with heap:=h' }) e c d (by decide) ⟨x,H,I1,ru,⟨rfl,λys hy=>by rw[I.list_inj hy hq];exact hx⟩,st',λb hb=>(hf b hb).1⟩⟩
 done:=by
  intro X hP hw hK hc i aA s σ H E I hf st hg
  subst hP hw hK;obtain⟨xs,hq,hx⟩:=hg;obtain⟨its,rv,p,hz⟩:=I.list hq;obtain⟨f0,f1,f2,f3,f4,f5⟩:=hf it (by simp)
  have hl:=rv.length;exact wpAny_pyNext_list_end (I.ok.hd hc) st p.isList (by simp;omega) λh' eb=>⟨rfl,I.turned (t':=s.toks) (λb o hb e=>eb b o hb e) f0 f1 f3 f4 f5⟩
 self:=λ_ _ _ _ _ st h=>wpAny_pyIter_listiter st h
theorem ae7{P:Program}{w:World}{K:Fg}{tg:Expr}(a it:Addr):Turn P w K tg (Itt K a) [it] it (λi h=>h.IsTupleIter it a i) where
 mem:=by simp
 obj:=λi h st b hb=>by
  have e:b=it:=by simpa using hb
  subst e;obtain⟨o,e,c,d⟩:=st;exact⟨o,e,λv z=>by rw[d]at z;cases z⟩
 keep:=λi h h' st k=>st.at λo e=>k it (by simp) o e
 item:=by
  intro X hP hw hK hc i aA s σ H E I hf st hg
  subst hP hw hK;obtain⟨xs,x,hq,hx⟩:=hg;obtain⟨its,rv,p,hz⟩:=I.tuple hq;obtain⟨u,hu,ru⟩:=rv.get hx;obtain⟨f0,f1,f2,f3,f4,f5⟩:=hf it (by simp)
  refine wpAny_pyNext_tuple_item st (show s.heap.IsTuple a its.toArray from p) (x:=u) (by simpa using hu) λh' st' sb=>?_
  have I1:Inv X aA σ H {s with heap:=h' }:=I.turned (t':=s.toks) (λb o hb e=>(sb.2 b hb).trans e) f0 f1 f3 f4 f5
  obtain⟨o,e,c,d⟩:=id st';exact⟨u,rfl,aj9 (s:={s with heap:=h' }) e c d (by decide) ⟨x,H,I1,ru,⟨rfl,λys hy=>by rw[I.tuple_inj hy hq];exact hx⟩,st',λb hb=>(hf b hb).1⟩⟩
 done:=by
  intro X hP hw hK hc i aA s σ H E I hf st hg
  subst hP hw hK;obtain⟨xs,hq,hx⟩:=hg;obtain⟨its,rv,p,hz⟩:=I.tuple hq;obtain⟨f0,f1,f2,f3,f4,f5⟩:=hf it (by simp)
  have hl:=rv.length;exact wpAny_pyNext_tuple_end (I.ok.hd hc) st (show s.heap.IsTuple a its.toArray from p) (by simp;omega) λh' eb=>⟨rfl,I.turned (t':=s.toks) (λb o hb e=>eb b o hb e) f0 f1 f3 f4 f5⟩
 self:=λ_ _ _ _ _ st h=>wpAny_pyIter_tupleiter st h
theorem ae8{P:Program}{w:World}{K:Fg}{tg:Expr}(it:Addr)(lo:Int)(n:Nat):Turn P w K tg (Itr lo n) [it] it (λi h=>IsRangeIter h it (lo+(i:Nat)*1) ((n:Int)-(i:Nat)) 1) where
 mem:=by simp
 obj:=λi h st b hb=>by
  have e:b=it:=by simpa using hb
  subst e;exact⟨_,st,λv z=>by
   have z':Data.fields _=Data.cell v:=z
   cases z'⟩
 keep:=λi h h' st k=>k it (by simp) _ st
 item:=by
  intro X hP hw hK hc i aA s σ H E I hf st hg
  subst hP hw hK;obtain⟨f0,f1,f2,f3,f4,f5⟩:=hf it (by simp)
  have W:=Walks.range (prog:=X.prog) (w:=X.w) (I.ok.hd hc) it lo 1 n;refine W.item i s _ _ hg st λv h' tk hv st' kk=>?_;obtain⟨t,rfl⟩:=hv;have I1:Inv X aA σ H {s with heap:=h',toks:=tk}:=I.turned (λb o hb e=>kk b o (by simpa using hb) e) f0 f1 f3 f4 f5
  refine⟨_,rfl,aj9 (s:={s with heap:=h',toks:=tk}) (n := "range_iterator") st' rfl rfl (by decide) ⟨.int (lo+i),H,I1,⟨t,?_⟩,⟨rfl,rfl⟩,st',λb hb=>(hf b hb).1⟩⟩
  rw[Int.mul_one]
 done:=by
  intro X hP hw hK hc i aA s σ H E I hf st hg
  subst hP hw hK;obtain⟨f0,f1,f2,f3,f4,f5⟩:=hf it (by simp)
  exact wpAny_pyNext_range_end (I.ok.hd hc) st (by have:n<=i:=hg;omega) λh' eb=>⟨rfl,I.turned (t':=s.toks) (λb o hb e=>eb b o hb e) f0 f1 f3 f4 f5⟩
 self:=λ_ _ _ _ _ st h=>wpAny_pyIter_rangeiter st h
section
variable{X:Cx}{tg:Expr}
noncomputable def axv(K:Fg)(tl:TE):TI:=λσ H R=>tl σ H λx H1=>∃a,x=.ref a/\(∃xs,SqL K H1 a xs)/\R (Itl K a) H1
noncomputable def b0v(K:Fg)(tl:TE):TI:=λσ H R=>tl σ H λx H1=>∃a,x=.ref a/\(∃xs,SqT K H1 a xs)/\R (Itt K a) H1
theorem afb{l:Expr}{tl:TE}(hl:PE X l tl):PI X tg l (axv X.K tl):=by
 intro aA s σ H R I h
 refine thn (hl aA s σ H _ I h) ?_
 rintro v s1 ⟨x,H1,I1,r1,q1⟩
 obtain⟨a,e,⟨xs,hq⟩,q⟩:=q1;subst e;cases r1
 obtain⟨its,rv,p,hz⟩:=I1.list hq;refine wpAny_pyIter_list p.isList ?_;refine⟨s1.heap.objs.size,[s1.heap.objs.size],_,_,H1,rfl,I1.kept (t':=s1.toks) λb o e=>aJ _ e,afa a _,⟨_,bb _ rfl,rfl,rfl⟩,λb hb=>?_,q⟩;have e:b=s1.heap.objs.size:=by simpa using hb
 subst e;exact I1.fpOk (a8 _) (I1.hok.fresh (a8 _))
theorem asd{l:Expr}{tl:TE}(hl:PE X l tl):PI X tg l (b0v X.K tl):=by
 intro aA s σ H R I h
 refine thn (hl aA s σ H _ I h) ?_
 rintro v s1 ⟨x,H1,I1,r1,q1⟩
 obtain⟨a,e,⟨xs,hq⟩,q⟩:=q1;subst e;cases r1
 obtain⟨its,rv,p,hz⟩:=I1.tuple hq;refine wpAny_pyIter_tuple (show s1.heap.IsTuple a its.toArray from p) ?_
 refine⟨s1.heap.objs.size,[s1.heap.objs.size],_,_,H1,rfl,I1.kept (t':=s1.toks) λb o e=>aJ _ e,ae7 a _,⟨_,bb _ rfl,rfl,rfl⟩,λb hb=>?_,q⟩;have e:b=s1.heap.objs.size:=by simpa using hb
 subst e;exact I1.fpOk (a8 _) (I1.hok.fresh (a8 _))
theorem aja{s:Shared}{lo hi:Int}{tk:Nat}(I:Inv X aA σ H s)(h1 : -(2^62)<=lo)(h2:lo<2^62)(h3 : -(2^62)<=hi)(h4:hi<2^62)
  (q:R (Itr lo (hi-lo).toNat) H):wpAny (model X.prog X.w) X.A (pyIter (.ref s.heap.objs.size)) (PIE X aA σ tg R) E {s with heap:=s.heap.push {cls:=.type "range",data:=.fields #[.int lo t,.int hi u,.int 1 v]},toks:=tk}:=by
 refine wpAny_pyIter_range (IsRange.new ..) (small_one h1 h2 h3 h4) ?_;have I1:Inv X aA σ H {s with heap:=s.heap.push {cls:=.type "range",data:=.fields #[.int lo t,.int hi u,.int 1 v]},toks:=tk}:=I.kept λb o e=>aJ _ e
 refine⟨(s.heap.push {cls:=.type "range",data:=.fields #[.int lo t,.int hi u,.int 1 v]}).objs.size,[(s.heap.push {cls:=.type "range",data:=.fields #[.int lo t,.int hi u,.int 1 v]}).objs.size],_,_,H,rfl,
  I1.kept (t':=tk) λb o e=>aJ _ e,ae8 _ lo (hi-lo).toNat,?_,λb hb=>?_,q⟩
 .have e1:lo+((0:Nat):Int)*1=lo:=by simp
  have e2:(((hi-lo).toNat:Nat):Int)-((0:Nat):Int)=Builtin.Range.rangeSize lo hi 1:=by rw[rangeSize_one];split<;>omega
  show IsRangeIter _ _ (lo+((0:Nat):Int)*1) ((((hi-lo).toNat:Nat):Int)-((0:Nat):Int)) 1;rw[e1,e2];exact bb _ rfl
 .have e:b=(s.heap.push {cls:=.type "range",data:=.fields #[.int lo t,.int hi u,.int 1 v]}).objs.size:=by simpa using hb
  subst e;exact I1.fpOk (a8 _) (I1.hok.fresh (a8 _))
noncomputable def axw(ta:TA):TI:=λσ H R=>ta σ H λvs H1=>∃j:Int,vs=[.int j] /\ -(2^62)<=j/\j<2^62/\R (Itr 0 j.toNat) H1
theorem afc{a:Expr}{ta:TA}{p pos:Pos}(hg:Gl X "range")(hm:X.mg "range" = none)(ha:PA X [a] ta)(hs:starEach [a] X.env=[(false,eval a X.env)]:=by rfl):PI X tg (.Call (.Name "range" p) [a] [] pos) (axw ta):=by
 intro aA s σ H R I h
 refine Call_ (ack I hg hm boot_range (eW (thn (ha pos aA s σ H _ I h) λus s1 ⟨vs,H1,I1,r1,q1⟩=>?_) hs rfl));obtain⟨j,e,q1,q2,q⟩:=q1;subst e
 cases r1 with
 |cons r rr =>
  cases rr
  obtain⟨t,rfl⟩:=r;exact call_range_1 (aja I1 (by omega) (by omega) q1 q2 (by simpa using q))
def b0w(wi:TI)(g:TG)(tb:TS):TS:=λD σ H=>wi σ H λJ H1=>∃W:Nat->Nat->St->Hp->Prop,(∃m,W 0 m σ H1)/\∀i m σ H,W i m σ H->
 (J.stop i H/\D.nx σ H)\/(J.go i H/\∃N:St->Hp->Prop,(∀σ' H',N σ' H'->∃m',m'<m/\W (i+1) m' σ' H')/\∀x H',J.yld i H x H'->g x σ H' λσ2 H2=>tb {D with nx:=N,ct:=N,bk:=D.nx} σ2 H2)
noncomputable def a0i(fp:List Addr)(h:Heap):List (Addr×Obj):=fp.filterMap λb=>(h.get? b).map λo=>(b,o)
theorem zg{h:Heap}(hb:b∈fp)(e:h.get? b=some o):(b,o)∈a0i fp h:=cT.mpr ⟨b,hb,by rw[e];rfl⟩
theorem a97(hp:p∈a0i fp h):p.1∈fp/\h.get? p.1=some p.2:=by
 obtain⟨b,hb,e⟩:=cT.mp hp
 cases q:h.get? b with
 |none=>rw[q]at e;cases e
 |some o =>
  rw[q]at e;have e':(b,o)=p:=bK e;subst e';exact⟨hb,q⟩
theorem Inv.pinned(I:Inv X aA σ H s)(hf:∀b∈fp,FpOk X aA H b)(ho:∀b∈fp,∃o,s.heap.get? b=some o/\∀v,o.data≠.cell v):Inv X (aA++a0i fp s.heap) σ H s :=
 I.pins_of λp hp=>(bG.mp hp).elim (λz=>I.pin p (br _ z)) λz=>by
  obtain⟨hb,e⟩:=a97 z;obtain⟨f0,f1,f2,_⟩:=hf p.1 hb;obtain⟨o,e',d⟩:=ho p.1 hb;rw[e]at e';cases e'
  exact⟨e,f0,f1,f2,d⟩
theorem Inv.unpinned(I:Inv X (aA++pl) σ H s):Inv X aA σ H s:=I.pins_of λp hp=>I.pin p (br _ (dU _ hp))
theorem ase{aF:Expr}{body:List Stmt}{wi:TI}{g:TG}{tb:TS}{pos:Pos}(hp:PassesOwn (model X.prog X.w) X.A X.env X.xe)(hc:X.calm=true)(hi:PI X tg aF wi)(hg:PG X tg g)(hb:PSs X body tb)
  (hs:∀x,foldedSetIterable aF X.env x=pure x:=by intro _;rfl):PS X (.For tg aF body [] pos) (b0w wi g tb):=by
 intro aA s σ H D I h
 refine wpAny_For (thn (hi aA s σ H _ I h) λv s1 h1=>thn h1 λitv s2 h2=>?_) hs;obtain⟨it,fp,tn,J,H2,e,I2,T,st2,f2,W,⟨m0,w0⟩,turn⟩:=h2;subst e;have stat:∀{H':Hp},(∀b∈fp,H' b=none)->∀b∈fp,FpOk X aA H' b:=λhn b hb=>⟨hn b hb,(f2 b hb).2⟩;refine codeAny_forLoop_any (λn s'=>∃i σ' H',Inv X aA σ' H' s'/\tn i s'.heap/\(∀b∈fp,H' b=none)/\W i n σ' H') ?_ m0 ⟨0,σ,H2,I2,st2,λb hb=>(f2 b hb).1,w0⟩
 rintro n s3 ⟨i,σ3,H3,I3,st3,fr3,w3⟩
 rcases turn i n σ3 H3 w3 with⟨stop,qn⟩|⟨go,N,hN,step⟩
 .refine cW hp (thn (T.done X rfl rfl rfl hc i aA s3 σ3 H3 X.xe I3 (stat fr3) st3 stop) λr s4 ⟨hr,I4⟩=>?_);subst hr;exact dF ⟨σ3,H3,I4,qn⟩
 .refine cW hp (thn (T.item X rfl rfl rfl hc i aA s3 σ3 H3 X.xe I3 (stat fr3) st3 go) λr s4 ⟨u,hr,h4⟩=>?_);subst hr;refine cW hp (thn h4 λ_ s5 ⟨x,H5,I5,r5,y5,st5,fr5⟩=>?_);have I5':=I5.pinned (stat fr5) (T.obj _ _ st5);refine cW hp (thn (hg _ s5 σ3 H5 x u _ I5' r5 (step x H5 y5)) λ_ s6 ⟨σ6,H6,I6,q6⟩=>?_);refine cW hp (thn (hb _ s6 σ6 H6 _ I6 q6) λf s7 q7=>?_);have again:∀{σ7:St} {H7:Hp},Inv X (aA++a0i fp s5.heap) σ7 H7 s7->N σ7 H7->∃m,m<n/\∃i σ' H',Inv X aA σ' H' s7/\tn i s7.heap/\(∀b∈fp,H' b=none)/\W i m σ' H':=λ{σ7 H7} I7 n7=>by
   obtain⟨m',hm,w7⟩:=hN σ7 H7 n7;refine⟨m',hm,i+1,σ7,H7,I7.unpinned,T.keep _ _ _ st5 λb hb o e=>(I7.pin (b,o) (br _ (br _ (zg hb e)))).1,λb hb=>?_,w7⟩;obtain⟨o,e,d⟩:=T.obj _ _ st5 b hb;exact(I7.pin (b,o) (br _ (br _ (zg hb e)))).2.1
  cases f with
  |next=>obtain⟨σ7,H7,I7,n7⟩:=q7;exact again I7 n7
  |cont=>obtain⟨σ7,H7,I7,n7⟩:=q7;exact again I7 n7
  |brk=>obtain⟨σ7,H7,I7,q7⟩:=q7;exact⟨σ7,H7,I7.unpinned,q7⟩
  |ret v=>obtain⟨x7,σ7,H7,I7,r7,q7⟩:=q7;exact⟨x7,σ7,H7,I7.unpinned,r7,q7⟩
end
abbrev R2:=V->V->Hp->VK->Prop
def OpR(X:Cx)(f:Value->Value->Sem Value)(r:R2):Prop :=
 ∀(aA:List (Addr×Obj)) (s:Shared) (σ:St) (H:Hp) (x y:V) (v u:Value) (Q:VK),Inv X aA σ H s->RelV x v->RelV y u->r x y H Q->
  wpAny (model X.prog X.w) X.A (f v u) (EP X aA σ Q) X.xe s
def UnR(X:Cx)(f:Value->Sem Value)(r:V->Hp->VK->Prop):Prop :=
 ∀(aA:List (Addr×Obj)) (s:Shared) (σ:St) (H:Hp) (x:V) (v:Value) (Q:VK),Inv X aA σ H s->RelV x v->r x H Q->
  wpAny (model X.prog X.w) X.A (f v) (EP X aA σ Q) X.xe s
def CallR(X:Cx)(f:Value)(r:List V->Hp->VK->Prop):Prop :=
 ∀(aA:List (Addr×Obj)) (s:Shared) (σ:St) (H:Hp) (xs:List V) (us:List Value) (Q:VK),Inv X aA σ H s->Vals xs us->r xs H Q->
  wpAny (model X.prog X.w) X.A (call f us) (EP X aA σ Q) X.xe s
def b0x(X:Cx)(r:V->Hp->(Bool->Hp->Prop)->Prop):Prop :=
 ∀(aA:List (Addr×Obj)) (s:Shared) (σ:St) (H:Hp) (x:V) (v:Value) (Q:Bool->Hp->Prop),Inv X aA σ H s->RelV x v->r x H Q->
  wpAny (model X.prog X.w) X.A (truthy v) (TP X aA σ Q) X.xe s
noncomputable def tOp(r:R2)(ta tb:TE):TE:=λσ H Q=>ta σ H λx H1=>tb σ H1 λy H2=>r x y H2 Q
def tUn(r:V->Hp->VK->Prop)(ta:TE):TE:=λσ H Q=>ta σ H λx H1=>r x H1 Q
def rI(C:Int->Int->Prop)(g:Int->Int->V):R2:=λx y H Q=>∃i j,x=.int i/\y=.int j/\C i j/\Q (g i j) H
noncomputable def rI0(g:Int->Int->V):R2:=λx y H Q=>∃i j,x=.int i/\y=.int j/\Q (g i j) H
def rU(g:Int->V):V->Hp->VK->Prop:=λx H Q=>∃i,x=.int i/\Q (g i) H
section
variable{X:Cx}{a b c:Expr}{ta tb tc:TE}{pos:Pos}
theorem axx(ha:PE X a ta)(hb:PE X b tb){aA:List (Addr×Obj)}{s:Shared}{σ:St}{H:Hp}{R:V->V->Hp->Prop}(I:Inv X aA σ H s)
  (h:ta σ H λx H1=>tb σ H1 λy H2=>R x y H2) {Q:Value->Shared->Prop} {f:Value->Value->Sem Value}
  (hf:∀v u s2 x y H2,Inv X aA σ H2 s2->RelV x v->RelV y u->R x y H2->wpAny (model X.prog X.w) X.A (f v u) Q X.xe s2) :
  wpAny (model X.prog X.w) X.A (eval a X.env) (λv s₁=>wpAny (model X.prog X.w) X.A (eval b X.env) (λu s₂=>wpAny (model X.prog X.w) X.A (f v u) Q X.xe s₂) X.xe s₁) X.xe s:=by
 refine thn (ha aA s σ H _ I h) ?_
 rintro v s1 ⟨x,H1,I1,r1,q1⟩
 refine thn (hb aA s1 σ H1 _ I1 q1) ?_
 rintro u s2 ⟨y,H2,I2,r2,q2⟩
 exact hf v u s2 x y H2 I2 r1 r2 q2
theorem axy{op:Operator}{r:R2}(ho:OpR X (binaryOp op) r)(ha:PE X a ta)(hb:PE X b tb):PE X (.BinOp a op b pos) (tOp r ta tb):=by
 intro aA s σ H Q I h
 exact wpAny_BinOp (axx ha hb I h λv u s2 x y H2 I2 rx ry q=>ho aA s2 σ H2 x y v u Q I2 rx ry q)
theorem axz{op:UnaryOp}{r:V->Hp->VK->Prop}(ho:UnR X (unaryOp op) r)(ha:PE X a ta):PE X (.UnaryOp op a pos) (tUn r ta):=by
 intro aA s σ H Q I h
 exact UnaryOp_ (thn (ha aA s σ H _ I h) λv s1 ⟨x,H1,I1,r1,q1⟩=>ho aA s1 σ H1 x v Q I1 r1 q1)
theorem opI{f:Value->Value->Sem Value}{C:Int->Int->Prop}{g:Int->Int->Int}
  (rule:∀(i j:Int) (t u:Tok) (s:Shared) (Q:Value->Shared->Prop) (E:Value->Shared->Prop),C i j->Q (.int (g i j) s.toks) {s with toks:=s.toks+1}->wpAny (model X.prog X.w) X.A (f (.int i t) (.int j u)) Q E s) :
  OpR X f (rI C λi j=>.int (g i j)):=by
 intro aA s σ H x y v u Q I rx ry h
 obtain⟨i,j,rfl,rfl,hc,q⟩:=h;obtain⟨t,rfl⟩:=rx;obtain⟨t',rfl⟩:=ry;exact rule i j t t' s _ _ hc ⟨.int (g i j),H,I.tok _,⟨_,rfl⟩,q⟩
theorem awx{f:Value->Value->Sem Value}{g:Int->Int->Int}
  (rule:∀(i j:Int) (t u:Tok) (s:Shared) (Q:Value->Shared->Prop) (E:Value->Shared->Prop),Q (.int (g i j) s.toks) {s with toks:=s.toks+1}->wpAny (model X.prog X.w) X.A (f (.int i t) (.int j u)) Q E s) :
  OpR X f (rI0 λi j=>.int (g i j)):=by
 intro aA s σ H x y v u Q I rx ry h
 obtain⟨i,j,rfl,rfl,q⟩:=h;obtain⟨t,rfl⟩:=rx;obtain⟨t',rfl⟩:=ry;exact rule i j t t' s _ _ ⟨.int (g i j),H,I.tok _,⟨_,rfl⟩,q⟩
theorem awy{f:Value->Value->Sem Value}{g:Int->Int->Bool}
  (rule:∀(i j:Int) (t u:Tok) (s:Shared) (Q:Value->Shared->Prop) (E:Value->Shared->Prop),Q (.bool (g i j)) s->wpAny (model X.prog X.w) X.A (f (.int i t) (.int j u)) Q E s) :
  OpR X f (rI0 λi j=>.bl (g i j)):=by
 intro aA s σ H x y v u Q I rx ry h
 obtain⟨i,j,rfl,rfl,q⟩:=h;obtain⟨t,rfl⟩:=rx;obtain⟨t',rfl⟩:=ry;exact rule i j t t' s _ _ ⟨.bl (g i j),H,I,rfl,q⟩
def ay0(i j:Int):Prop:=0<j/\j<1073741824
def azz(i j:Int):Prop:=0<=j/\j<=1000000/\i.natAbs<2^64
def CMul(i j:Int):Prop:=(-(2^64)<i/\i<2^64)\/(-(2^64)<j/\j<2^64)
theorem CMul.ok(h:CMul i j):IntMulOk i j:=by
 rcases h with⟨h1,h2⟩|⟨h1,h2⟩
 .exact .of_left (intBits_le_64 h1 h2)
 .exact .of_right (intBits_le_64 h1 h2)
theorem asf:OpR X (binaryOp .Add) (rI0 λi j=>.int (i+j)):=awx λ_ _ _ _ _ _ _ q=>add_int q
theorem ash:OpR X (binaryOp .Sub) (rI0 λi j=>.int (i-j)):=awx λ_ _ _ _ _ _ _ q=>sub_int q
theorem asi:OpR X (binaryOp .Mult) (rI CMul λi j=>.int (i*j)):=opI λ_ _ _ _ _ _ _ hc q=>mul_int q hc.ok
theorem aod:OpR X (binaryOp .FloorDiv) (rI ay0 λi j=>.int (i / j)):=opI λi j _ _ _ _ _ hc q=>by
 have h1:(0:Int)<j:=hc.1;have h2:j<1073741824:=hc.2;exact floordiv_int (by omega) (by rw[fh i (by omega)];exact q) (.inl (PyProof.noPylong_small (by omega)))
theorem asj:OpR X (binaryOp .Mod) (rI (λ_ j=>0<j) λi j=>.int (i%j)):=opI λi j _ _ _ _ _ hc q=>by
 have h1:(0:Int)<j:=hc;exact mod_int' (by omega) (by rw[Int.fmod_eq_emod_of_nonneg i (by omega)];exact q)
theorem asl:OpR X (binaryOp .Pow) (rI azz λi j=>.int (i^j.toNat)):=opI λ_ _ _ _ _ _ _ hc q=>pow_int_small hc.1 hc.2.1 hc.2.2 q
theorem afd:OpR X (inplaceOp .Add) (rI0 λi j=>.int (i+j)):=awx λ_ _ _ _ _ _ _ q=>iadd_int q
theorem afe:OpR X (inplaceOp .Sub) (rI0 λi j=>.int (i-j)):=awx λ_ _ _ _ _ _ _ q=>isub_int q
theorem ajb:OpR X (inplaceOp .FloorDiv) (rI ay0 λi j=>.int (i / j)):=opI λi j _ _ _ _ _ hc q=>by
 have h1:(0:Int)<j:=hc.1;have h2:j<1073741824:=hc.2;exact ifloordiv_int (by omega) (by rw[fh i (by omega)];exact q) (.inl (PyProof.noPylong_small (by omega)))
theorem unI{f:Value->Sem Value}{g:Int->Int}
  (rule:∀(i:Int) (t:Tok) (s:Shared) (Q:Value->Shared->Prop) (E:Value->Shared->Prop),Q (.int (g i) s.toks) {s with toks:=s.toks+1}->wpAny (model X.prog X.w) X.A (f (.int i t)) Q E s) :
  UnR X f (rU λi=>.int (g i)):=by
 intro aA s σ H x v Q I rx h
 obtain⟨i,rfl,q⟩:=h;obtain⟨t,rfl⟩:=rx;exact rule i t s _ _ ⟨.int (g i),H,I.tok _,⟨_,rfl⟩,q⟩
theorem asm:UnR X (unaryOp .USub) (rU λi=>.int (-i)):=unI λ_ _ _ _ _ q=>neg_int q
end
section
variable{X:Cx}{a b c:Expr}{ta tb tc:TE}{pos:Pos}
theorem a7d(I:Inv X aA σ H s)(q:Q (.bl k) H)(e:k=k'):EP X aA σ Q (.bool k') s:=by
 subst e;exact⟨.bl k,H,I,rfl,q⟩
theorem aoe:OpR X (compareOp .Lt) (rI0 λi j=>.bl (decide (i<j))):=awy λ_ _ _ _ _ _ _ q=>lt_int q
theorem a81:OpR X (compareOp .LtE) (rI0 λi j=>.bl (decide (i<=j))):=awy λ_ _ _ _ _ _ _ q=>le_int q
theorem asn:OpR X (compareOp .Gt) (rI0 λi j=>.bl (decide (j<i))):=awy λ_ _ _ _ _ _ _ q=>gt_int q
theorem ay1:OpR X (compareOp .GtE) (rI0 λi j=>.bl (decide (j<=i))):=awy λ_ _ _ _ _ _ _ q=>ge_int q
theorem a5u:OpR X (compareOp .Lt) (λx y H Q=>∃i j,x=.str i/\y=.str j/\Q (.bl (decide (i.cps.toList<j.cps.toList))) H):=by
 intro aA s σ H x y v u Q I rx ry h
 obtain⟨i,j,rfl,rfl,q⟩:=h;obtain⟨t,rfl⟩:=rx;obtain⟨t',rfl⟩:=ry;exact lt_str (a7d I q rfl)
theorem afg:OpR X (compareOp .In) (λx y H Q=>∃i j,x=.str i/\y=.str j/\Q (.bl (!(Builtin.Str.occurrences j i 0 j.length 1).isEmpty)) H):=by
 intro aA s σ H x y v u Q I rx ry h
 obtain⟨i,j,rfl,rfl,q⟩:=h;obtain⟨t,rfl⟩:=rx;obtain⟨t',rfl⟩:=ry;exact in_str (a7d I q rfl)
theorem aog:OpR X (compareOp .IsNot) (λx y H Q=>y=.non/\Q (.bl (!decide (x=.non))) H):=by
 intro aA s σ H x y v u Q I rx ry h
 obtain⟨rfl,q⟩:=h;cases ry
 refine isnot_none_gen (a7d I q ?_)
 cases x<;>first
  |(cases rx;rfl)
  |(obtain⟨t,rfl⟩:=rx;rfl)
theorem a98:OpR X (compareOp .NotIn) (λx y H Q=>∃i j,x=.str i/\y=.str j/\Q (.bl (!(!(Builtin.Str.occurrences j i 0 j.length 1).isEmpty))) H):=by
 intro aA s σ H x y v u Q I rx ry h
 obtain⟨i,j,rfl,rfl,q⟩:=h;obtain⟨t,rfl⟩:=rx;obtain⟨t',rfl⟩:=ry;exact notIn_str (a7d I q rfl)
theorem OpR.or(h:OpR X f r)(h':OpR X f r'):OpR X f (λx y H Q=>r x y H Q\/r' x y H Q):=by
 intro aA s σ H x y v u Q I rx ry q
 rcases q with q|q
 .exact h aA s σ H x y v u Q I rx ry q
 .exact h' aA s σ H x y v u Q I rx ry q
theorem a5v(b:Expr)(h:op≠.In:=by decide)(h2:op≠.NotIn:=by decide):behindInMarks op b=false:=by
 have e1:(op == CmpOp.In)=false:=by cases op<;>first|rfl|exact absurd rfl h
 have e2:(op == CmpOp.NotIn)=false:=by cases op<;>first|rfl|exact absurd rfl h2
 cases b<;>simp[behindInMarks,e1,e2]
theorem aoh(ho:OpR X (compareOp op) r)(ha:PE X a ta)(hb:PE X b tb)(hm:behindInMarks op b=false):PE X (.Compare a [op] [b] pos) (tOp r ta tb):=by
 intro aA s σ H Q I h
 exact wpAny_Compare1 (axx ha hb I h λv u s2 x y H2 I2 rx ry q=>ho aA s2 σ H2 x y v u Q I2 rx ry q) hm
noncomputable def ajc(t:TE):TT:=λσ H Q=>t σ H λx H'=>∃k,x=.bl k/\Q k H'
theorem aoi{op:CmpOp}{r:R2}(ho:OpR X (compareOp op) r)(ha:PE X a ta)(hb:PE X b tb)(hm:behindInMarks op b=false):PT X (.Compare a [op] [b] pos) (ajc (tOp r ta tb)):=by
 intro aA s σ H Q I h
 refine wpAny_isTrue_Compare1 (thn (ha aA s σ H _ I h) λv s1 ⟨x,H1,I1,r1,q1⟩=>thn (hb aA s1 σ H1 _ I1 q1) λu s2 ⟨y,H2,I2,r2,q2⟩ =>
  thn (ho aA s2 σ H2 x y v u _ I2 r1 r2 q2) λc s3 ⟨z,H3,I3,r3,k,e,q3⟩=>?_) hm
 subst e;cases r3
 exact bU ⟨H3,I3,q3⟩
noncomputable def afh(r r':R2)(ta tb tc:TE):TE:=λσ H Q=>ta σ H λx H1=>tb σ H1 λy H2=>r x y H2 λz H3=>∃k,z=.bl k /\
 (if k=true then tc σ H3 λw' H4=>r' y w' H4 Q else Q (.bl false) H3)
theorem ajd{op op':CmpOp}{r r':R2}(ho:OpR X (compareOp op) r)(ho':OpR X (compareOp op') r')(ha:PE X a ta)(hb:PE X b tb)(hc:PE X c tc)
  (hm:lastMarks [op,op'] [b,c]=false:=by with_unfolding_all rfl):PE X (.Compare a [op,op'] [b,c] pos) (afh r r' ta tb tc):=by
 intro aA s σ H Q I h
 refine Compare_chain (thn (ha aA s σ H _ I h) λv s1 ⟨x,H1,I1,r1,q1⟩=>chain_link (thn (hb aA s1 σ H1 _ I1 q1) λu s2 ⟨y,H2,I2,r2,q2⟩ =>
  thn (ho aA s2 σ H2 x y v u _ I2 r1 r2 q2) λd s3 ⟨z,H3,I3,r3,k,e,q3⟩=>?_)) hm
 subst e;cases r3
 refine bU ?_
 cases k with
 |false=>exact ite_ff ⟨.bl false,H3,I3,rfl,q3⟩
 |true=>exact ite_tt (chain_last (thn (hc aA s3 σ H3 _ I3 q3) λw' s4 ⟨z',H4,I4,r4,q4⟩=>ho' aA s4 σ H4 y z' u w' Q I4 r2 r4 q4))
theorem aje{op op':CmpOp}{r r':R2}(ho:OpR X (compareOp op) r)(ho':OpR X (compareOp op') r')(ha:PE X a ta)(hb:PE X b tb)(hc:PE X c tc)
  (hm:lastMarks [op,op'] [b,c]=false:=by with_unfolding_all rfl):PT X (.Compare a [op,op'] [b,c] pos) (ajc (afh r r' ta tb tc)):=by
 intro aA s σ H Q I h
 refine isTrue_chain (thn (ha aA s σ H _ I h) λv s1 ⟨x,H1,I1,r1,q1⟩=>test_link (thn (hb aA s1 σ H1 _ I1 q1) λu s2 ⟨y,H2,I2,r2,q2⟩ =>
  thn (ho aA s2 σ H2 x y v u _ I2 r1 r2 q2) λd s3 ⟨z,H3,I3,r3,k,e,q3⟩=>?_)) hm
 subst e;cases r3
 refine bU ?_
 cases k with
 |false =>
  obtain⟨k',e',q'⟩:=q3
  cases e'
  exact ite_ff ⟨H3,I3,q'⟩
 |true =>
  refine ite_tt (test_last (thn (hc aA s3 σ H3 _ I3 q3) λw' s4 ⟨z',H4,I4,r4,q4⟩=>thn (ho' aA s4 σ H4 y z' u w' _ I4 r2 r4 q4) λd' s5 ⟨z2,H5,I5,r5,k2,e2,q5⟩=>?_));subst e2;cases r5
  exact bU ⟨H5,I5,q5⟩
def ay2(K:Fg)(x:V)(H:Hp)(k:Bool):Prop :=
 match x with
 |.non=>k=false
 |.bl b=>k=b
 |.int i=>k=(i != 0)
 |.str y=>y.length<=sizeLine/\k=((y.length:Int) != 0)
 |.byt y=>y.size<=sizeLine/\k=((y.size:Int) != 0)
 |.ref p=>(∃xs,SqL K H p xs/\k = !xs.isEmpty)\/(∃xs,SqT K H p xs/\k = !xs.isEmpty)\/∃kvs,H p=some (.dK kvs)/\k = !kvs.isEmpty
 |_=>False
theorem ae9{κ:Type}{kvs:List (κ×V)}{vs:List (κ×Value)}(r:KV kvs vs):(!vs.isEmpty) = !kvs.isEmpty:=by
 cases r<;>rfl
theorem a7e(r:Vals xs its):(!its.toArray.isEmpty) = !xs.isEmpty:=by
 cases r<;>simp
theorem a4x:(sizeLine:Nat)<2^63:=by rw[fJ];decide
theorem aso:b0x X (λx H Q=>∃k,ay2 X.K x H k/\Q k H):=by
 intro aA s σ H x v Q I rx h
 obtain⟨k,e,q⟩:=h;have hl:=a4x;have hs:sizeLine=16777216:=fJ
 cases x with
 |non =>
  cases rx
  have e':k=false:=e;subst e';exact truthy_none ⟨H,I,q⟩
 |bl b =>
  cases rx
  have e':k=b:=e;subst e';exact bU ⟨H,I,q⟩
 |int i =>
  obtain⟨t,rfl⟩:=rx;have e':k=(i != 0):=e;subst e';exact PySem.P.truthy_int ⟨H,I,q⟩
 |str y =>
  obtain⟨t,rfl⟩:=rx;obtain⟨hy,e'⟩:y.length<=sizeLine/\k=((y.length:Int) != 0):=e;subst e';exact PySem.P.truthy_str (by omega) ⟨H,I.tok _,q⟩
 |byt y =>
  obtain⟨t,rfl⟩:=rx;obtain⟨hy,e'⟩:y.size<=sizeLine/\k=((y.size:Int) != 0):=e;subst e';exact PySem.W.truthy_bytes (by omega) ⟨H,I.tok _,q⟩
 |ref p =>
  cases rx
  have e':(∃xs,SqL X.K H p xs/\k = !xs.isEmpty)\/(∃xs,SqT X.K H p xs/\k = !xs.isEmpty)\/∃kvs,H p=some (.dK kvs)/\k = !kvs.isEmpty:=e
  rcases e' with⟨xs,hx,e'⟩|⟨xs,hx,e'⟩|⟨kvs,hx,e'⟩
  .subst e';obtain⟨its,r,pl,hz⟩:=I.list hx;have aH:=r.length;exact wpAny_truthy_list pl.isList (by simp only[ax];omega) ⟨H,I.tok _,by rw[a7e r];exact q⟩
  .subst e';obtain⟨its,r,pl,hz⟩:=I.tuple hx;have aH:=r.length;exact truthy_tuple pl (by simp only[ax];omega) ⟨H,I.tok _,by rw[a7e r];exact q⟩
  .subst e';obtain⟨hz,hS,vs,r,m⟩:kvs.length<=sizeLine/\(p == sysModules)=false/\∃vs,KV kvs vs/\s.heap.DictOf (a5t X.prog X.w) p vs:=I.hok p _ hx;have aH:kvs.length=vs.length:=Paired.length r;exact wpAny_truthy_dict hS m (by omega) ⟨H,I.tok _,by rw[ae9 r];exact q⟩
 |_=>exact(show False from e).elim
theorem ajf(ha:PE X a ta)(he:∀whole,isTrue a X.env whole=(do let v <-whole;standAt a.pos;holding [v] (truthy v))) :
  PT X a (λσ H Q=>ta σ H λx H'=>∃k,ay2 X.K x H' k/\Q k H'):=by
 intro aA s σ H Q I h
 exact isTrue_plain (thn (ha aA s σ H _ I h) λv s1 ⟨x,H1,I1,r1,q1⟩=>aso aA s1 σ H1 x v Q I1 r1 q1) (he _)
theorem aea:OpR X (binaryOp .Add) (λx y H Q=>∃i j,x=.str i/\y=.str j/\i.length+j.length<=sizeLine/\Q (.str (i++j)) H):=by
 intro aA s σ H x y v u Q I rx ry h
 obtain⟨i,j,rfl,rfl,hz,q⟩:=h;obtain⟨t,rfl⟩:=rx;obtain⟨t',rfl⟩:=ry;exact add_str (λt' tk=>⟨.str (i++j),H,I.tok _,⟨_,rfl⟩,q⟩) hz
theorem a5w:OpR X (inplaceOp .Add) (λx y H Q=>∃i j,x=.str i/\y=.str j/\i.length+j.length<=sizeLine/\Q (.str (i++j)) H):=by
 intro aA s σ H x y v u Q I rx ry h
 obtain⟨i,j,rfl,rfl,hz,q⟩:=h;obtain⟨t,rfl⟩:=rx;obtain⟨t',rfl⟩:=ry;exact iadd_str (λt' tk=>⟨.str (i++j),H,I.tok _,⟨_,rfl⟩,q⟩) hz
theorem vals1(r:Vals [x] us):∃u,us=[u]/\RelV x u:=by
 cases r with
 |cons r1 r2=>cases r2;exact⟨_,rfl,r1⟩
theorem vals2(r:Vals [x,y] us):∃u w',us=[u,w']/\RelV x u/\RelV y w':=by
 cases r with
 |cons r1 r2 =>
  cases r2 with
  |cons r3 r4=>cases r4;exact⟨_,_,rfl,r1,r3⟩
theorem ajg:CallR X (.builtin "abs") (λxs H Q=>∃i,xs=[.int i]/\Q (.int (if i<0 then -i else i)) H):=by
 intro aA s σ H xs us Q I r h
 obtain⟨i,rfl,q⟩:=h;obtain⟨u,rfl,t,rfl⟩:=vals1 r;exact call_abs_int λu tk=>⟨.int (if i<0 then -i else i),H,I.tok _,⟨_,rfl⟩,q⟩
theorem afi(hc:X.calm=true):CallR X (.builtin "max") (λxs H Q=>∃i j,xs=[.int i,.int j]/\Q (.int (if j > i then j else i)) H):=by
 intro aA s σ H xs us Q I r h
 obtain⟨i,j,rfl,q⟩:=h;obtain⟨u,w',rfl,⟨t,rfl⟩,⟨t',rfl⟩⟩:=vals2 r;refine max_two_ints (I.ok.hd hc) λh' tk k=>⟨_,H,I.kept k,?_,q⟩
 by_cases hj:j > i
 .rw[ai hj,ai hj];exact⟨_,rfl⟩
 .rw[aL hj,aL hj];exact⟨_,rfl⟩
theorem afj:CallR X (.type "int") (λxs H Q=>(∃i,xs=[.int i]/\Q (.int i) H)\/∃k,xs=[.bl k]/\Q (.int (if k then 1 else 0)) H):=by
 intro aA s σ H xs us Q I r h
 rcases h with⟨i,rfl,q⟩|⟨k,rfl,q⟩
 .obtain⟨u,rfl,t,rfl⟩:=vals1 r;exact call_int_int ⟨.int i,H,I,⟨_,rfl⟩,q⟩
 .obtain⟨u,rfl,r1⟩:=vals1 r;cases r1
  exact call_int_bool ⟨.int (if k then 1 else 0),H,I.tok _,⟨_,rfl⟩,q⟩
theorem ajh:CallR X (.builtin "ord") (λxs H Q=>∃x,xs=[.str x]/\x.length=1/\Q (.int (x.cps.getD 0 0:Nat)) H):=by
 intro aA s σ H xs us Q I r h
 obtain⟨x,rfl,hz,q⟩:=h;obtain⟨u,rfl,t,rfl⟩:=vals1 r;exact ord_of_one hz ⟨.int _,H,I.tok _,⟨_,rfl⟩,q⟩
end
structure ObjM (h:Heap) (x dx C:Addr) (mA:Str->Option Value):Prop where
 obj:h.get? x=some (PySem.W.instObj C dx)
 ns:h.Ns1 dx mA
 ne:dx≠x
theorem afk{h:Heap}(n:h.Ns1 dx mA):∃od,h.get? dx=some od/\∀name,PySem.W.lookIn name od=some (mA name):=by
 obtain⟨o,es,ep,ho,hd,hk,_,hm⟩:=n;refine⟨o,ho,λname=>?_⟩;have e:=hm name;unfold nsFind findBy at e;rw[<-Array.find?_toList]at e;unfold PySem.W.lookIn;rw[hd];dsimp only
 split
 .rename_i y q;rw[q]at e;exact ah some e
 .rename_i q;rw[q]at e;have a:es.toList.any (·.refKey)=false:=by
   rw[List.any_eq_false]
   intro y hy
   obtain⟨z,t,hkey⟩:=hk y (Array.mem_toList_iff.mp hy);simp[DictEntry.refKey,hkey]
  have a':¬ es.toList.any (·.refKey)=true:=by rw[a];exact aT
  rw[aL a'];exact ah some e
theorem ObjM.look(I:ObjM h x dx C mA):∃od,PySem.W.InstAt h x (PySem.W.instObj C dx) C (some od)/\∀name,PySem.W.lookIn name od=some (mA name) :=
 let ⟨od,ho,hl⟩:=afk I.ns
 ⟨od,⟨I.obj,rfl,rfl,ho⟩,hl⟩
section
variable{P:Program}{w:World}{H H':Hp}{h h':Heap}{a C dx:Addr}{fs fs':List (Str×V)}
theorem aoj(hok:HOk P w H h)(e:H a=some (.ins C dx fs)):∃mA,ObjM h a dx C mA/\(∀f,axl (fs.lookup f) (mA f))/\PySem.Within mA (fs.map (·.1))/\fs.length<=1000/\H dx=some (.own a):=by
 obtain⟨d,z,ne,ob,mA,n,r,q⟩:=(show ObjOk P w H h a (.ins C dx fs) from hok a _ e)
 exact⟨mA,⟨ob,n,ne⟩,r,q,z,d⟩
end
structure Cls (K:Fg) (C:Addr):Prop where
 pg:PySem.W.plainGet K C Str.empty=true
 hd:PySem.W.hasDictIn K C=true
 po:PySem.W.plainOver K C=true
 sa:PySem.W.findIn K (.ref C) "__setattr__" = some (some (.builtin "object.__setattr__"))
theorem Cls.get{K:Fg}{C:Addr}(c:Cls K C)(f:Str):PySem.W.plainGet K C f=true:=c.pg
section
variable{X:Cx}{aA:List (Addr×Obj)}{σ:St}{H:Hp}{s:Shared}{A:Around}{E:Value->Shared->Prop}{Q:Value->Shared->Prop}{c:Value}{b:Bool}
inductive TyOf (K:Fg) (H:Hp):V->Value->Prop where
 |non:TyOf K H .non (.type "NoneType")
 |bl (x:Bool):TyOf K H (.bl x) (.type "bool")
 |int (i:Int):TyOf K H (.int i) (.type "int")
 |str (x:Str):TyOf K H (.str x) (.type "str")
 |flt (x:UInt64):TyOf K H (.flt x) (.type "float")
 |lst {a:Addr} {xs:List V} (e:H a=some (.lst xs)):TyOf K H (.ref a) (.type "list")
 |frz {a:Addr} {o:Obj} {xs:List V} (e:H a=some (.frz o (.lst xs))):TyOf K H (.ref a) (.type "list")
 |tup {a:Addr} {xs:List V} (e:H a=some (.tup xs)):TyOf K H (.ref a) (.type "tuple")
 |dK {a:Addr} {kvs:List (Key×V)} (e:H a=some (.dK kvs)):TyOf K H (.ref a) (.type "dict")
 |dT {a:Addr} {kvs:List (List Key×V)} (e:H a=some (.dT kvs)):TyOf K H (.ref a) (.type "dict")
 | ins {a C dx:Addr} {fs:List (Str×V)} (e:H a=some (.ins C dx fs)) (cl:Cls K C) (ha:PySem.W.findIn K (.ref C) "__class__" = some (some (.builtin "object.__class__")))
   (hn:PySem.W.specialIn K (.builtin "object.__class__") "__get__" = some (some (.builtin "getset_descriptor.__get__"))) (htk:PySem.W.takesIn K (.builtin "object.__class__")=some true)
   (hm:PySem.W.mroIn K C (.type "object")=some true):TyOf K H (.ref a) (.ref C)
theorem afl(I:Inv X aA σ H s)(rx:RelV x u)(ty:TyOf X.K H x t)(e:PySem.W.kitOne X.K t c=some b)(h:∀tk,Q (.bool b) {s with toks:=tk}) :
  wpAny (model X.prog X.w) A (call (.builtin "isinstance") [u,c]) Q E s:=by
 cases ty with
 |non=>cases (show u=Value.none from rx);exact bS PySem.W.kitx_none I.kIn True.intro e (λz=>nomatch z) h
 |bl y=>cases (show u=Value.bool y from rx);exact bS PySem.W.kitx_bool I.kIn True.intro e (λz=>nomatch z) h
 |int i=>obtain⟨t,q⟩:=(show ∃t,u=Value.int i t from rx);cases q;exact bS PySem.W.kitx_int I.kIn True.intro e (λz=>nomatch z) h
 |str y=>obtain⟨t,q⟩:=(show ∃t,u=Value.str y t from rx);cases q;exact bS PySem.W.kitx_str I.kIn True.intro e (λz=>nomatch z) h
 |flt y=>obtain⟨t,q⟩:=(show ∃t,u=Value.float y t from rx);cases q;exact bS PySem.W.kitx_float I.kIn True.intro e (λz=>nomatch z) h
 |@lst a xs ea =>
  cases (show u=Value.ref a from rx)
  obtain⟨_,_,n,_,h1⟩:=(show ObjOk X.prog X.w H s.heap a (.lst xs) from I.hok a _ ea)
  exact bS PySem.W.kitx_list I.kIn ⟨_,h1,rfl⟩ e (λz=>nomatch z) h
 |@frz a ob xs ea =>
  cases (show u=Value.ref a from rx)
  obtain⟨_,_,_,n,_,h1⟩:=(show ObjOk X.prog X.w H s.heap a (.frz ob (.lst xs)) from I.hok a _ ea)
  exact bS PySem.W.kitx_list I.kIn ⟨_,h1,rfl⟩ e (λz=>nomatch z) h
 |@tup a xs ea =>
  cases (show u=Value.ref a from rx)
  obtain⟨_,_,_,p⟩:=(show ObjOk X.prog X.w H s.heap a (.tup xs) from I.hok a _ ea)
  obtain⟨o,h1,h2,_⟩:=p;exact bS PySem.W.kitx_tuple I.kIn ⟨o,h1,h2.1⟩ e (λz=>nomatch z) h
 |@dK a kvs ea =>
  cases (show u=Value.ref a from rx)
  obtain⟨_,_,vs,_,p⟩:=(show ObjOk X.prog X.w H s.heap a (.dK kvs) from I.hok a _ ea)
  obtain⟨o,es,ep,h1,h2,_⟩:=p;exact bS fB I.kIn ⟨o,h1,h2.1⟩ e (λz=>nomatch z) h
 |@dT a kvs ea =>
  cases (show u=Value.ref a from rx)
  obtain⟨_,_,xs,_,o,es,ep,h1,h2,_⟩:=(show ObjOk X.prog X.w H s.heap a (.dT kvs) from I.hok a _ ea)
  exact bS fB I.kIn ⟨o,h1,h2.1⟩ e (λz=>nomatch z) h
 |@ins a C dx fs ea cl ha hn htk hm =>
  cases (show u=Value.ref a from rx)
  obtain⟨mA,O,_⟩:=aoj I.hok ea;obtain⟨od,J,_⟩:=O.look;exact bS (PySem.W.kitx_own (cl.get _) cl.hd ha hn htk hm) I.kIn J e (λz=>nomatch z) h
end
structure Room (k:Nat) (A:Around):Prop where
 hd:A.handled=none
 dp:A.depth+3*k+5<recursionLimit
 un:A.units+16*k+200<cLine
 gd:A.guards=some []
theorem Room.mono(r:Room k A)(h:j<=k):Room j A:=⟨r.hd,by have:=r.dp;omega,by have:=r.un;omega,r.gd⟩
theorem Room.deeper(r:Room (k+1) A)(env:Env):Room k (A.deeper env) :=
 ⟨r.hd,by have:=r.dp;show A.depth+1+3*k+5<_;omega,by have:=r.un;show A.units+3+16*k+200<_;omega,r.gd⟩
theorem Room.depth(r:Room k A):A.depth<recursionLimit:=by have:=r.dp;omega
theorem Room.units(r:Room k A):A.units+64<cLine:=by have:=r.un;omega
def b00:TA:=λ_ H Q=>Q [] H
noncomputable def ay3(ta:TE)(tr:TA):TA:=λσ H Q=>ta σ H λx H1=>tr σ H1 λxs H2=>Q (x::xs) H2
section
variable{X:Cx}{e:Expr}{es:List Expr}{te:TE}{t:TA}{pos:Pos}
theorem a4y:PA X [] b00:=λ_ _ _ _ H Q I h=>Calls.spliced_nil ⟨[],H,I,.nil,h⟩
theorem yj(ha:PE X e te)(hr:PA X es t)(hs:starEach (e::es) X.env=(false,eval e X.env)::starEach es X.env:=by rfl):PA X (e::es) (ay3 te t):=by
 intro pos aA s σ H Q I h
 rw[hs];show wpAny _ _ (spliced ((false,eval e X.env)::backTo pos (starEach es X.env))) _ _ s;refine Calls.spliced_cons (thn (ha aA s σ H _ I h) λu s1 ⟨x,H1,I1,r1,q1⟩=>?_);exact thn (hr pos aA s1 σ H1 _ I1 q1) λus s2 ⟨xs,H2,I2,r2,q2⟩=>⟨x::xs,H2,I2,.cons r1 r2,q2⟩
noncomputable def b0y(t:TA):TE:=λσ H Q=>t σ H λxs H1=>xs.length<=sizeLine/\∀p,H1 p=none->Q (.ref p) (upd H1 p (.tup xs))
noncomputable def b0z(t:TA):TE:=λσ H Q=>t σ H λxs H1=>xs.length<=sizeLine/\∀p,H1 p=none->Q (.ref p) (upd H1 p (.lst xs))
theorem amc{x1}(h:PA X es t):PE X (.Tuple es x1 pos) (b0y t):=by
 intro aA s σ H Q I hq
 refine wpAny_Tuple_spliced (thn (h pos aA s σ H _ I hq) λus s1 ⟨xs,H1,I1,r,z,q⟩=>⟨by rw[<-r.length];exact z,?_⟩)
 have hf:H1 s1.heap.objs.size=none:=I1.hok.fresh (a8 _);refine⟨.ref s1.heap.objs.size,upd H1 s1.heap.objs.size (.tup xs),I1.laid (t':=s1.toks) (λb u e=>aJ _ e) (a8 _) ?_,rfl,q _ hf⟩;exact⟨z,us,r,⟨_,bb _ rfl,⟨rfl,rfl⟩,_,rfl⟩⟩
theorem asp(h:PA X es t):PE X (.List es pos) (b0z t):=by
 intro aA s σ H Q I hq
 refine wpAny_List_spliced (thn (h pos aA s σ H _ I hq) λus s1 ⟨xs,H1,I1,r,z,q⟩=>⟨by rw[<-r.length];exact z,?_⟩)
 have hf:H1 s1.heap.objs.size=none:=I1.hok.fresh (a8 _);refine⟨.ref s1.heap.objs.size,upd H1 s1.heap.objs.size (.lst xs),I1.laid (t':=s1.toks) (λb u e=>aJ _ e) (a8 _) ?_,rfl,q _ hf⟩;exact⟨z,us,0,r,bb _ rfl⟩
end
abbrev Sp:=List V->Hp->VK->XK->Prop
abbrev CXT:=List Env->Hp->Shared->XK->Value->Shared->Prop
structure Env0 (P:Program) (w:World) (K:Fg) (mg:Str->Option Value) (base:Heap) (A:Around) (outer:List Env) (s:Shared) (H:Hp):Prop where
 frames:A.frames=some outer
 mod:Mod K mg base
 bs:∀b o,base.get? b=some o->s.heap.get? b=some o/\H b=none
 bsz:base.objs.size<=s.heap.objs.size
 funs:s.heap.FunFrames base outer
 frf:∀b∈frs outer,H b=none
 hok:HOk P w H s.heap
 bare:AllBare s.gens
def CE(outer:List Env)(P:Program)(w:World)(H:Hp)(s:Shared)(Q:VK)(u:Value)(s':Shared):Prop :=
 ∃v H',s'.os=s.os/\AllBare s'.gens/\Un (frs outer) [] H H' s.heap s'.heap/\HOk P w H' s'.heap/\RelV v u/\Q v H'
def CR(CX:CXT)(outer:List Env)(P:Program)(w:World)(H:Hp)(s:Shared)(Q:VK)(E:XK)(r:Result)(s':Shared):Prop :=
 match r with
 |.ok (.ret u)=>CE outer P w H s Q u s'
 |.ok _=>False
 |.error e=>CX outer H s E e s'
structure FnOk (P:Program) (w:World) (K:Fg) (mg:Str->Option Value) (base:Heap) (CX:CXT) (k:Nat) (f:Addr) (fd:FuncData) (ps:List Str) (sp:Sp):Prop where
 len:∀vs H Q E,sp vs H Q E->vs.length=ps.length
 run:∀(A:Around) (outer:List Env) (s:Shared) (H:Hp) (args:Args) (us:List Value) (vs:List V) (Q:VK) (E:XK),Room k A->Env0 P w K mg base A outer s H->BindsTo s fd args (ps.zip us)->Vals vs us->sp vs H Q E->
  codeAny (model P w) A (.call (.ref f) args) (CR CX outer P w H s Q E) s
theorem FnOk.imp{P:Program}{w:World}{K:Fg}{mg:Str->Option Value}{base:Heap}{CX:CXT}{k:Nat}{f:Addr}{fd:FuncData}{ps:List Str}{sp sp':Sp}(F:FnOk P w K mg base CX k f fd ps sp)
  (h:∀vs H Q E,sp' vs H Q E->sp vs H Q E):FnOk P w K mg base CX k f fd ps sp' :=
 ⟨λvs H Q E q=>F.len vs H Q E (h _ _ _ _ q),λA outer s H args us vs Q E hr he hb hv hs=>F.run A outer s H args us vs Q E hr he hb hv (h _ _ _ _ hs)⟩
section
variable{X:Cx}{aA:List (Addr×Obj)}{σ:St}{H:Hp}{s s':Shared}
theorem Inv.env0(I:Inv X aA σ H s):Env0 X.prog X.w X.K X.mg X.base X.A X.stack s H :=
 ⟨I.ok.frames,I.ok.mod,I.bs,bH I.ok.bsz I.sz,I.stack,I.stkFree,I.hok,I.bare⟩
theorem Inv.after(I:Inv X aA σ H s)(h:CE X.stack X.prog X.w H s Q u s'):EP X aA σ Q u s':=by
 obtain⟨v,H',os,bare,un,hok,r,q⟩:=h;obtain⟨hh,g,d,t,os'⟩:=s';obtain rfl:os'=s.os:=os;exact⟨v,H',I.call (h':=hh) (g':=g) (d':=d) (t':=t) (ch:=[]) un hok bare (λb z=>absurd z (by simp)),r,q⟩
end
noncomputable def asq(sp:Sp)(dvs:List V)(E:XK)(t:TA):TE:=λσ H Q=>t σ H λvs H1=>sp (vs++dvs) H1 Q E
def Binds(K:Fg)(fd:FuncData)(ps:List Str)(ds:List Value):Prop :=
 ∀(s:Shared) (us:List Value),K.In s.heap->(us++ds).length=ps.length->BindsTo s fd ⟨us,[]⟩ (ps.zip (us++ds))
theorem Binds.all{K:Fg}{fd:FuncData}{ps:List Str}(h:∀us:List Value,us.length=ps.length->bindArgs fd ⟨us,[]⟩=pure (ps.zip us)):Binds K fd ps []:=λs us _ hl=>by
 rw[bP]at hl ⊢;exact .of_eq (h us hl)
def a7f(CX:CXT)(X:Cx)(E:XK):Prop:=∀(aA:List (Addr×Obj)) (σ:St) (H:Hp) (s:Shared) (e:Value) (s':Shared),Inv X aA σ H s->CX X.stack H s E e s'->X.xe e s'
section
variable{X:Cx}{CX:CXT}{k:Nat}{f C:Addr}{fd:FuncData}{ps:List Str}{sp:Sp}{dvs:List V}{ds:List Value}{E:XK}{x m:Str}{p pos apos:Pos}{e o:Expr}{es:List Expr}{ta:TE}{t:TA}
theorem amd(F:FnOk X.prog X.w X.K X.mg X.base CX k f fd ps sp)(hr:Room k X.A)(hb:Binds X.K fd ps ds)(hd:Vals dvs ds)(hx:a7f CX X E)
  (I:Inv X aA σ H s) (r:Vals vs us) (h:sp (vs++dvs) H Q E):wpAny (model X.prog X.w) X.A (call (.ref f) us) (EP X aA σ Q) X.xe s:=by
 have r2:Vals (vs++dvs) (us++ds):=r.append hd;have hl:(us++ds).length=ps.length:=by rw[<-r2.length];exact F.len _ _ _ _ h
 refine wpAny_call (eG (F.run X.A X.stack s H ⟨us,[]⟩ (us++ds) (vs++dvs) Q E hr I.env0 (hb s us I.kIn hl) r2 h) λr s' hq=>?_)
 cases r with
 |error e=>exact hx aA σ H s e s' I hq
 |ok fl =>
  cases fl with
  |ret u=>exact I.after hq
  |next=>exact False.elim hq
  |brk=>exact False.elim hq
  |cont=>exact False.elim hq
theorem a82(F:FnOk X.prog X.w X.K X.mg X.base CX k f fd ps sp)(hr:Room k X.A)(hg:Gl X x)(hm:X.mg x=some (.ref f))(hk:PySem.W.keepIn X.K (.ref f)=true)(hb:Binds X.K fd ps ds)(hd:Vals dvs ds)(hx:a7f CX X E)
  (ha:PA X (e::es) t) (hdb:(x == ("__debug__" : Str))=false:=by decide) (he:starEach (e::es) X.env=(false,eval e X.env)::starEach es X.env:=by rfl) (hpl:(backTo pos (starEach es X.env)).any (·.1)=false:=by rfl) :
  PE X (.Call (.Name x p) (e::es) [] pos) (asq sp dvs E t):=by
 intro aA s σ H Q I h
 refine dE (a4g I hg hm ?_ hdb);refine PySem.W.callWith_K (h₀:=X.base) I.ok.mod.kin hk (thn (ha pos aA s σ H _ I h) λus s1 ⟨vs,H1,I1,r,q⟩=>⟨I1.kIn,?_⟩) he hpl;exact amd F hr hb hd hx I1 r q
theorem aji(F:FnOk X.prog X.w X.K X.mg X.base CX k f fd ps sp)(hr:Room k X.A)(hg:Gl X x)(hm:X.mg x=some (.ref f))(hk:PySem.W.keepIn X.K (.ref f)=true)(hb:Binds X.K fd ps ds)(hd:Vals dvs ds)(hx:a7f CX X E)
  (hdb:(x == ("__debug__" : Str))=false:=by decide):PE X (.Call (.Name x p) [] [] pos) (asq sp dvs E b00):=by
 intro aA s σ H Q I h
 refine dE (a4g I hg hm ?_ hdb);exact PySem.W.callWith_K0 I.kIn hk (amd (us:=[]) F hr hb hd hx I .nil h)
end
structure FnScope (N P:List Str) (sc:Scope):Prop where
 kind:sc.kind=.function
 co:sc.isCoroutine=false
 gen:sc.isGenerator=false
 nd:N.Nodup
 pre:N.take P.length=P
 par:∀x∈P,sc.names.lookup x=some .local\/sc.names.lookup x=some .cell
 nofree:∀y∈sc.names,y.2≠.free
theorem a99{kindOf:Str->Option NameKind}{x:Str}:∀{binds:List (Str×Value)} {m:Str->Option Value},(∀v,(x,v)∉binds)->bindL kindOf binds m x=m x
 |[],_,_=>rfl
 |(n,v)::r,m,h=>by
  unfold bindL;rw[a99 λw hw=>h w (aP _ hw)]
  split
  .have:x≠n:=by rintro rfl;exact h v aX
   simp[this]
  .rfl
theorem a9a{kindOf:Str->Option NameKind}{x:Str}:∀{binds:List (Str×Value)} {m:Str->Option Value},(∀v,(x,v)∉binds)->bindC kindOf binds m x=m x
 |[],_,_=>rfl
 |(n,v)::r,m,h=>by
  unfold bindC;rw[a9a λw hw=>h w (aP _ hw)]
  split
  .rfl
  .have:x≠n:=by rintro rfl;exact h v aX
   simp[this]
theorem a9b{kindOf:Str->Option NameKind}{x:Str}{v:Value}:∀{P:List Str} {vs:List Value} {i:Nat} {m:Str->Option Value},P.Nodup->P[i]? = some x->vs[i]? = some v->kindOf x=some .local->
  bindL kindOf (P.zip vs) m x=some v
 |[],_,_,_,_,h,_,_=>by simp at h
 |_::_,[],_,_,_,_,h,_=>by simp at h
 |p::P,w::vs,0,m,nd,h1,h2,hk=>by
  simp at h1 h2;subst h1;subst h2
  show bindL kindOf ((p,w)::P.zip vs) m p=_;unfold bindL;rw[a99 λv hv=>(cP.mp nd).1 (fT hv).1,ai hk];simp
 |p::P,w::vs,i+1,m,nd,h1,h2,hk=>by
  show bindL kindOf ((p,w)::P.zip vs) m x=_;unfold bindL;exact a9b (i:=i) (cP.mp nd).2 (by simpa using h1) (by simpa using h2) hk
theorem a9c{kindOf:Str->Option NameKind}{x:Str}{v:Value}:∀{P:List Str} {vs:List Value} {i:Nat} {m:Str->Option Value},P.Nodup->P[i]? = some x->vs[i]? = some v->kindOf x≠some .local->
  bindC kindOf (P.zip vs) m x=some v
 |[],_,_,_,_,h,_,_=>by simp at h
 |_::_,[],_,_,_,_,h,_=>by simp at h
 |p::P,w::vs,0,m,nd,h1,h2,hk=>by
  simp at h1 h2;subst h1;subst h2
  show bindC kindOf ((p,w)::P.zip vs) m p=_;unfold bindC;rw[a9a λv hv=>(cP.mp nd).1 (fT hv).1,aL hk];simp
 |p::P,w::vs,i+1,m,nd,h1,h2,hk=>by
  show bindC kindOf ((p,w)::P.zip vs) m x=_;unfold bindC;exact a9c (i:=i) (cP.mp nd).2 (by simpa using h1) (by simpa using h2) hk
noncomputable def start(N:List Str)(vs:List V):St:=vs.map some++List.replicate (N.length-vs.length) none
noncomputable def afm(CX:CXT)(P:Program)(w:World)(K:Fg)(mg:Str->Option Value)(base:Heap)(N:List Str)(qual:Str)(aB:Scope)(f:Addr)(cd:Value)(A:Around)(outer:List Env)(s:Shared)(H:Hp)(E:XK):Cx where
 prog:=P
 w:=w
 K:=K
 mg:=mg
 base:=base
 A:=A.deeper (envOfC qual aB s.heap.objs.size f cd)
 N:=N
 s₀:=s
 H₀:=H
 env:=envOfC qual aB s.heap.objs.size f cd
 outer:=outer
 stack:=envOfC qual aB s.heap.objs.size f cd::outer
 ex:=[]
 calm:=true
 fn:=λ_=>true
 pn:=[]
 xe:=λe s'=>wpAny (model P w) (A.deeper (envOfC qual aB s.heap.objs.size f cd)) (leaving (envOfC qual aB s.heap.objs.size f cd) e) (λ_ s''=>CX outer H s E e s'') (λe' s''=>CX outer H s E e' s'') s'
theorem acl{sc:Scope}(h:sc.names.lookup x=some .cell):∃c,(cellsFrom n sc.names []).lookup x=some c:=by
 have q:=PySem.W.cellsFrom_some sc.names n [] (.inl h);exact fD.mp q
theorem afn{CX:CXT}{P:Program}{w:World}{K:Fg}{mg:Str->Option Value}{base:Heap}{N ps:List Str}{qual:Str}{aB:Scope}{f:Addr}{cd:Value}{A:Around}{outer:List Env}{s s1:Shared}{H:Hp}{E:XK}{us:List Value}{vs:List V}
  (S:FnScope N ps aB) (hd:A.handled=none) (e0:Env0 P w K mg base A outer s H) (hl:vs.length=ps.length) (r:Vals vs us)
  (x:InCallC s s.heap.objs.size (bindL (envOfC qual aB s.heap.objs.size f cd).kindOf (ps.zip us) λ_=>none) (cellsFrom (s.heap.objs.size+1) aB.names []) (bindC (envOfC qual aB s.heap.objs.size f cd).kindOf (ps.zip us) λ_=>none) s1) :
  Inv (afm CX P w K mg base N qual aB f cd A outer s H E) [] (start N vs) H s1:=by
 have hpl:ps.length<=N.length:=by have:=ah List.length S.pre;rw[aR]at this;omega
 obtain⟨h1,tk,rfl,hk⟩:=x.done;have noA:∀b:Addr,b∉(afm CX P w K mg base N qual aB f cd A outer s H E).ex:=λb z=>absurd (show b∈([]:List Addr) from z) (by simp)
 refine⟨⟨e0.mod,S.kind,rfl,rfl,a8 _,λy z c h1 h2=>?_,λy hy=>?_,λy c _ h=>?_,λ_=>hd,Around.frames_deeper e0.frames,.inr ⟨rfl,rfl⟩,λb z=>absurd z (noA b),e0.bs,e0.bsz,λb _ _=>noA b,λb z=>absurd z (noA b),e0.funs,e0.frf⟩,
  rfl,e0.bare,Un.kept hk,⟨_,x.toInCall.ns,λi y v h1 h2 h3=>?_⟩,λy c h=>⟨_,x.cell y c h⟩,e0.hok.fresh (a8 _),λy c h=>?_,λp hp=>absurd (show p∈([]:List (Addr×Obj)) from hp) (by simp),e0.hok.kept hk,?_⟩
 .exact name_of_addr x.apart (c5 h1) (c5 h2)
 .have hy:aB.names.lookup y=some .cell\/aB.names.lookup y=some .free:=hy
  rcases hy with hy|hy
  .exact acl hy
  .exact absurd rfl (S.nofree _ (c5 hy))
 .exact Nat.le_of_lt (x.above y c (c5 h))
 .have hi:i<vs.length:=by
   unfold start at h2
   by_cases hi:i<vs.length
   .exact hi
   .rw[aK (by simpa using hi)]at h2
    rw[dA]at h2
    split at h2<;>cases h2
  have ha:vs[i]? = some v:=by
   unfold start at h2;rw[aU (by simpa using hi),bV]at h2
   cases e:vs[i]? with
   |none=>rw[e]at h2;cases h2
   |some a=>rw[e]at h2;cases h2;rfl
  obtain⟨u,hu,rv⟩:=r.get ha;have hp:ps[i]? = some y:=by
   rw[<-S.pre,List.getElem?_take_of_lt (by omega)];exact h1
  have ndP:ps.Nodup:=by rw[<-S.pre];exact S.nd.sublist (List.take_sublist _ _)
  refine⟨u,rv,?_⟩
  rcases S.par y (bq hp) with k|k
  .exact .inl ⟨k,a9b ndP hp hu k⟩
  .obtain⟨c,e⟩:=acl (n:=s.heap.objs.size+1) k;refine .inr ⟨.inl k,c,e,?_⟩;have q:=x.cell y c e;rw[a9c ndP hp hu (by show aB.names.lookup y≠_;rw[k];decide)]at q
   exact q
 .exact e0.hok.fresh (Nat.le_of_lt (x.above y c (c5 h)))
 .unfold start;show _=N.length;rw[a9,aE,dG];omega
theorem asr{CX:CXT}{P:Program}{w:World}{K:Fg}{mg:Str->Option Value}{base:Heap}{k:Nat}{f:Addr}{name qual:Str}{params:Arguments}{body:List Stmt}{aB:Scope}{dV kV doc pm cdv ct oc:Value}{an od:Option Addr}
  {osl:Array (Option Value)} {N ps:List Str} {sp:Sp} (lk:K.lookup f=some ⟨oc,od,.func (PySem.W.fnOf name qual params body aB dV kV doc pm an cdv ct),osl⟩) (hcd:PySem.W.codeIn K cdv qual=true) (S:FnScope N ps aB)
  (len:∀vs H Q E,sp vs H Q E->vs.length=ps.length)
  (hbody:∀(A:Around) (outer:List Env) (s:Shared) (H:Hp) (vs:List V) (Q:VK) (E:XK),Room k (A.deeper (envOfC qual aB s.heap.objs.size f cdv))->sp vs H Q E->
   ∃t,PSs (afm CX P w K mg base N qual aB f cdv A outer s H E) body t/\t {nx:=λ_ H'=>Q .non H',rt:=Q} (start N vs) H) :
  FnOk P w K mg base CX (k+1) f (PySem.W.fnOf name qual params body aB dV kV doc pm an cdv ct) ps sp:=by
 refine⟨len,λA outer s H args us vs Q E hr e0 hb r hsp=>?_⟩;have hl:=len _ _ _ _ hsp;have KX:K.In s.heap:=e0.mod.kin.keeps λb o e=>(e0.bs b o e).1;have lim:s.heap.NoLimit:=e0.mod.nolimit.keeps λb o e=>(e0.bs b o e).1;have hkind:∀y∈ps.zip us,aB.names.lookup y.1=some .local\/(aB.names.lookup y.1=some .cell/\((cellsFrom (s.heap.objs.size+1) aB.names []).lookup y.1).isSome=true):=λ⟨n,v⟩ hy=>by
  rcases S.par n (fT hy).1 with q|q
  .exact .inl q
  .exact .inr ⟨q,PySem.W.cellsFrom_some _ _ _ (.inl q)⟩
 refine codeAny_call_function hr.depth (KX _ _ lk) rfl S.co S.gen rfl (PySem.W.codeRec_of KX hcd) (hb _ _ _ _ ?_);refine wpAny_newFunctionEnv_cells S.kind hkind λenv he s1 x=>?_;subst he;refine⟨lim.keeps x.toInCall.keep,codeAny_func ?_⟩;obtain⟨t,ht,hq⟩:=hbody A outer s H vs Q E (hr.deeper _) hsp;have I:Inv (afm CX P w K mg base N qual aB f cdv A outer s H E) [] (start N vs) H s1:=afn S hr.hd e0 hl r x;refine bO (ht [] s1 (start N vs) H _ I hq) (λfl s' hs=>?_) λe s' hs=>hs;have fin:∀{σ':St} {H':Hp} {v:V} {u:Value},Inv (afm CX P w K mg base N qual aB f cdv A outer s H E) [] σ' H' s'->RelV v u->Q v H'->CE outer P w H s Q u s' :=
  λ{σ' H' v u} J rv q=>⟨v,H',J.os,J.bare,J.base,J.hok,rv,q⟩
 cases fl with
 |ret u =>
  obtain⟨v,σ',H',J,rv,q⟩:=hs;exact fin J rv q
 |next =>
  obtain⟨σ',H',J,q⟩:=hs;exact fin (v:=V.non) (u:=Value.none) J rfl q
 |brk =>
  obtain⟨_,_,_,q⟩:=hs;exact False.elim q
 |cont =>
  obtain⟨_,_,_,q⟩:=hs;exact False.elim q
section
variable{X:Cx}{x:Str}{p pos:Pos}{e:Expr}{es:List Expr}{t:TA}{id T:String}{r:List V->Hp->VK->Prop}
def tCB(r:List V->Hp->VK->Prop)(t:TA):TE:=λσ H Q=>t σ H λvs H1=>r vs H1 Q
theorem a3g(hc:CallR X (.builtin id) r)(hg:Gl X x)(hm:X.mg x=none)(hv:bootBuiltins x=some (.builtin id))(ha:PA X (e::es) t)(hn:x ≠ "__name__":=by decide)(hdb:(x == ("__debug__" : Str))=false:=by decide)
  (he:starEach (e::es) X.env=(false,eval e X.env)::starEach es X.env:=by rfl) (hpl:(backTo pos (starEach es X.env)).any (·.1)=false:=by rfl):PE X (.Call (.Name x p) (e::es) [] pos) (tCB r t):=by
 intro aA s σ H Q I h
 refine dE (ack I hg hm hv ?_ hn hdb);exact PyProof.Rows.callWith_builtin1 (thn (ha pos aA s σ H _ I h) λus s1 ⟨vs,H1,I1,r1,q1⟩=>hc aA s1 σ H1 vs us Q I1 r1 q1) he hpl
theorem a9d(hc:CallR X (.type T) r)(hg:Gl X x)(hm:X.mg x=none)(hv:bootBuiltins x=some (.type T))(ha:PA X (e::es) t)(hn:x ≠ "__name__":=by decide)(hdb:(x == ("__debug__" : Str))=false:=by decide)
  (he:starEach (e::es) X.env=(false,eval e X.env)::starEach es X.env:=by rfl) (hpl:(backTo pos (starEach es X.env)).any (·.1)=false:=by rfl):PE X (.Call (.Name x p) (e::es) [] pos) (tCB r t):=by
 intro aA s σ H Q I h
 refine dE (ack I hg hm hv ?_ hn hdb);exact eW (thn (ha pos aA s σ H _ I h) λus s1 ⟨vs,H1,I1,r1,q1⟩=>hc aA s1 σ H1 vs us Q I1 r1 q1) he hpl
end
end L2
namespace HT
open PyProof.Rows
section
variable{prog:Program}{w:World}{A:Around}{E:Value->Shared->Prop}{s:Shared}
theorem aok{vs ws:List Value}(ht:IsTup s.heap t vs.toArray)(hb:IsTup s.heap b ws.toArray)(hv:vs≠[])
  (h1:ws=[]->Q (.ref t) s) (h2:ws≠[]->Q (.ref s.heap.objs.size) {s with heap:=s.heap.push {cls:=.type "tuple",data:=.seq (vs++ws).toArray} })
  (hsz:vs.length+ws.length<=sizeLine):wpAny (model prog w) A (binaryOp .Add (.ref t) (.ref b)) Q E s:=by
 obtain⟨⟨cls,dd,data,sl⟩,ho,hc,n,hd⟩:=id ht;obtain⟨⟨cls2,dd2,data2,sl2⟩,ho2,hc2,n2,hd2⟩:=id hb;simp only at hc hd hc2 hd2;subst hc hd hc2 hd2;have e:vs.toArray++ws.toArray=(vs++ws).toArray:=by simp
 by_cases hw:ws=[]
 .exact concat_meets ⟨_,ho,rfl⟩ ⟨_,ho2,rfl⟩ fP seq_tuple_add PySem.F.slot_tuple_add fK (fE _ _)
   (tuple_addW1 t b vs.toArray ws.toArray n n2 dd dd2 sl sl2 (by simpa using hv) (by simp[hw])) ⟨ho,ho2,h1 hw⟩
 .refine concat_meets ⟨_,ho,rfl⟩ ⟨_,ho2,rfl⟩ fP seq_tuple_add PySem.F.slot_tuple_add fK (fE _ _)
   (tuple_addW2 t b vs.toArray ws.toArray n n2 dd dd2 sl sl2 (by simpa using hv) (by simpa using hw) (by rw[ax,ax];exact hsz)) ⟨ho,ho2,?_⟩
  rw[e];exact h2 hw
noncomputable def sIx(n d:Nat):Option Int->Nat
 |none=>d
 |some v=>if v<0 then (v+(n:Int)).toNat else min v.toNat n
theorem acn(n d:Nat):sIx n d none=d:=rfl
theorem afo(n d k:Nat):sIx n d (some (k:Int))=min k n:=by
 show(if (k:Int)<0 then ((k:Int)+(n:Int)).toNat else min (k:Int).toNat n)=min k n
 rw[aL (by omega),dP]
theorem afp(n d:Nat)(hd:d<=n)(o:Option Int):sIx n d o<=n:=by
 cases o with
 |none=>exact hd
 |some v =>
  show(if v<0 then (v+(n:Int)).toNat else min v.toNat n)<=n
  by_cases hv:v<0
  .rw[ai hv];omega
  .rw[aL hv];exact Nat.min_le_right _ _
theorem afq(v:Int)(n d:Nat):(if v<0 then max (v+(n:Int)) 0 else min v (n:Int))=((sIx n d (some v):Nat):Int):=by
 show(if v<0 then max (v+(n:Int)) 0 else min v (n:Int))=(((if v<0 then (v+(n:Int)).toNat else min v.toNat n):Nat):Int)
 by_cases hv:v<0
 .simp only[ai hv];omega
 .simp only[aL hv];omega
theorem aeb(lo hi:Option Int)(n:Nat):Builtin.Slice.sliceAdjust lo hi 1 (n:Int)=(((sIx n 0 lo:Nat):Int),((sIx n n hi:Nat):Int)):=by
 have h1:¬ ((1:Int)<0):=by omega
 unfold Builtin.Slice.sliceAdjust;simp only[h1,dQ];refine Prod.ext ?_ ?_
 .cases lo with
  |none=>rfl
  |some v=>exact afq v n 0
 .cases hi with
  |none=>rfl
  |some v=>exact afq v n n
theorem aec(i j:Nat):Builtin.Slice.slicePlaces (i:Int) (j:Int) 1=j-i:=by
 unfold Builtin.Slice.slicePlaces;have h1:(1:Int) > 0:=by omega
 simp only[h1,dB,Int.ediv_one]
 split<;>omega
theorem a7g(p:IsPart v o)(h:Q o s):wpAny (model prog w) A (Builtin.Slice.slicePartIndex v) Q E s:=by
 cases p with
 |none=>exact slicePart_none h
 |int i t=>exact slicePart_int h
theorem a1c{sl:Addr}{vl vu:Value}{lo hi:Option Int}{n:Nat}{Q:Int×Int×Nat->Shared->Prop}(hs:s.heap.IsSliceOf sl vl vu .none)(pl:IsPart vl lo)(pu:IsPart vu hi)
  (h:Q (((sIx n 0 lo:Nat):Int),1,sIx n n hi-sIx n 0 lo) s):wpAny (model prog w) A (Builtin.Slice.sliceApplied (.ref sl) (pure (n:Int))) Q E s:=by
 obtain⟨os,hos,hcs,hds⟩:=id hs;unfold Builtin.Slice.sliceApplied Builtin.Slice.sliceFields;refine ag (ag (eX hos hds (x:=vl) rfl (ag (eX hos hds (x:=vu) rfl (ag (eX hos hds (x:=.none) rfl (aN ?_)))))));refine ag (slicePart_none ?_);show wpAny _ _ (if ((1:Int) == 0)=true then _ else _) _ _ s
 rw[aL (by decide)]
 refine ag (a7g pl (ag (a7g pu (ag (aN ?_)))));show wpAny _ _ (match Builtin.Slice.sliceAdjust lo hi 1 (n:Int) with|(lo,hi)=>pure (lo,(1:Int),Builtin.Slice.slicePlaces lo hi 1)) _ _ s
 rw[aeb lo hi n];show wpAny _ _ (pure (((sIx n 0 lo:Nat):Int),(1:Int),Builtin.Slice.slicePlaces ((sIx n 0 lo:Nat):Int) ((sIx n n hi:Nat):Int) 1)) _ _ s;rw[aec];exact aN h
theorem ajj(xs:Array Value)(i k:Nat):((List.range k).filterMap λ(m:Nat)=>xs[((i:Int)+(m:Int)*1).toNat]?).toArray=((xs.toList.drop i).take k).toArray:=by
 have e:(λ(m:Nat)=>xs[((i:Int)+(m:Int)*1).toNat]?)=λm=>xs[i+m]?:=by
  funext m
  have:((i:Int)+(m:Int)*1).toNat=i+m:=by omega
  rw[this]
 rw[e];have:=pick_run xs i k;rw[List.filterMap_map]at this;have e2:((λx=>xs[x]?) ∘ λx=>i+x)=λm=>xs[i+m]?:=rfl;rw[e2]at this;rw[this]
theorem a4h{t sl:Addr}{aC:Array Value}{vl vu:Value}{lo hi:Option Int}{Q:Value->Shared->Prop}(ht:IsTup s.heap t aC)(hs:s.heap.IsSliceOf sl vl vu .none)(pl:IsPart vl lo)(pu:IsPart vu hi)
  (hw:¬ (sIx aC.size 0 lo=0/\sIx aC.size aC.size hi=aC.size))
  (h:Q (.ref s.heap.objs.size) {s with heap:=s.heap.push {cls:=.type "tuple",data:=.seq ((aC.toList.drop (sIx aC.size 0 lo)).take (sIx aC.size aC.size hi-sIx aC.size 0 lo)).toArray} })
  (hsz:aC.size<=sizeLine):wpAny (model prog w) A (getItem (.ref t) (.ref sl)) Q E s:=by
 have htake:sizeOk (.seq ((aC.toList.drop (sIx aC.size 0 lo)).take (sIx aC.size aC.size hi-sIx aC.size 0 lo)).toArray):=by
  show((aC.toList.drop (sIx aC.size 0 lo)).take (sIx aC.size aC.size hi-sIx aC.size 0 lo)).toArray.size<=sizeLine;rw[ax,aR,aY,dX];omega
 have hj:sIx aC.size aC.size hi<=aC.size:=afp _ _ (a8 _) hi;obtain⟨os,hos,hcs,hds⟩:=id hs;have hTs:s.TypeIs (.ref sl) "slice":=⟨os,hos,hcs⟩;unfold getItem
 try with_reducible refine cD ?_
 first|refine ag (aN ?_)|skip
 refine ag (fF ht.typeIs (by decide) ?_)
 refine ag (e8 (name:=Str.ofString "__getitem__") ht.typeIs bQ
  (fQ bQ ht.typeIs entry_tuple_getitem ?_ (args_tuple_getitem _ _)))
 show wpAny _ _ (Builtin.Tuple.tupleItemsOf (.ref t)>>=_) _ _ s;refine ag (tupleItemsOf_ ht ?_);refine ag (fv hTs ?_);rw[ai (by decide)]
 refine ag (a1c hs pl pu ?_);have hno:¬ ((((sIx aC.size 0 lo:Nat):Int) == 0 && (1:Int) == 1 && (sIx aC.size aC.size hi-sIx aC.size 0 lo) == aC.size)=true):=by
  intro q
  rw[af,af]at q;have q1:((sIx aC.size 0 lo:Nat):Int)=0:=eq_of_beq q.1.1;have q2:sIx aC.size aC.size hi-sIx aC.size 0 lo=aC.size:=eq_of_beq q.2;exact hw ⟨by omega,by omega⟩
 show wpAny _ _ (if (((sIx aC.size 0 lo:Nat):Int) == 0 && (1:Int) == 1 && (sIx aC.size aC.size hi-sIx aC.size 0 lo) == aC.size)=true then _ else _) _ _ s
 rw[aL hno,ajj]
 first
  |exact ag (m:=Builtin.Tuple.tupleExact _) (cX (aN ⟨_,rfl,aN h⟩) htake)
  |exact ag (m:=Builtin.Tuple.tupleExact _) (cX (ag (aN (aN ⟨_,rfl,aN h⟩))) htake)
  |exact ag (ag (m:=Builtin.Tuple.tupleExact _) (cX (aN (aN ⟨_,rfl,aN h⟩)) htake))
  |exact ag (ag (m:=Builtin.Tuple.tupleExact _) (cX (aN ⟨_,rfl,aN h⟩) htake))
end
end HT
namespace L2
open PyProof.Rows
abbrev TO:=St->Hp->(Option Int->Hp->Prop)->Prop
def PO(X:Cx)(e:Option Expr)(t:TO):Prop :=
 ∀(aA:List (Addr×Obj)) (s:Shared) (σ:St) (H:Hp) (Q:Option Int->Hp->Prop),Inv X aA σ H s->t σ H Q->
  wpAny (model X.prog X.w) X.A (evalPart e X.env) (λu s'=>∃o H',Inv X aA σ H' s'/\IsPart u o/\Q o H') X.xe s
def aol:TO:=λ_ H Q=>Q none H
noncomputable def ay4(t:TE):TO:=λσ H Q=>t σ H λx H1=>∃i,x=.int i/\Q (some i) H1
theorem intsAre_of{ns:List Int}:∀{us:List Value},Vals (ns.map V.int) us->IntsAre us ns:=by
 induction ns with
 |nil=>intro us r;rw[cN]at r;cases r;exact .nil
 |cons n ns ih =>
  intro us r
  rw[b6]at r
  cases r with
  |cons r1 r2 =>
   obtain⟨t,e⟩:=r1;subst e;exact .cons n t (ih r2)
section
variable{X:Cx}{e:Expr}{te:TE}{lo hi:Option Expr}{tl th:TO}{pos p2:Pos}
theorem aom:PO X none aol:=by
 intro aA s σ H Q I h
 rw[evalPart_none];exact aN ⟨none,H,I,.none,h⟩
theorem aon(h:PE X e te):PO X (some e) (ay4 te):=by
 intro aA s σ H Q I hw
 rw[evalPart_some];refine thn (h aA s σ H _ I hw) ?_
 rintro u s1 ⟨x,H1,I1,r1,q1⟩
 obtain⟨i,rfl,q⟩:=q1;obtain⟨t,rfl⟩:=r1;exact⟨some i,H1,I1,.int i t,q⟩
def SlR(X:Cx)(r:V->Option Int->Option Int->Hp->VK->Prop):Prop :=
 ∀(aA:List (Addr×Obj)) (s:Shared) (σ:St) (H:Hp) (x:V) (v vl vu:Value) (lo hi:Option Int) (sl:Addr) (Q:VK),Inv X aA σ H s->RelV x v->s.heap.IsSliceOf sl vl vu .none->IsPart vl lo->IsPart vu hi->r x lo hi H Q->
  ∃T id,typeLookup (.type T) "__getitem__" = pure (some (.builtin id))/\s.TypeIs v T/\wpAny (model X.prog X.w) X.A (getItem v (.ref sl)) (EP X aA σ Q) X.xe s
theorem SlR.or(h:SlR X r)(h':SlR X r'):SlR X (λx lo hi H Q=>r x lo hi H Q\/r' x lo hi H Q):=by
 intro aA s σ H x v vl vu lo hi sl Q I rx hs pl pu q
 rcases q with q|q
 .exact h aA s σ H x v vl vu lo hi sl Q I rx hs pl pu q
 .exact h' aA s σ H x v vl vu lo hi sl Q I rx hs pl pu q
def tSl(r:V->Option Int->Option Int->Hp->VK->Prop)(te:TE)(tl th:TO):TE:=λσ H Q=>te σ H λx H1=>tl σ H1 λl H2=>th σ H2 λu H3=>r x l u H3 Q
theorem ajk(hr:SlR X r)(he:PE X e te)(hl:PO X lo tl)(hu:PO X hi th):PE X (.Subscript e (.Slice lo hi none p2) pos) (tSl r te tl th):=by
 intro aA s σ H Q I h
 refine Subscript_ (thn (he aA s σ H _ I h) λv s1 ⟨x,H1,I1,r1,q1⟩=>?_);refine wpAny_Slice (thn (hl aA s1 σ H1 _ I1 q1) λvl s2 ⟨l,H2,I2,pl,q2⟩=>thn (hu aA s2 σ H2 _ I2 q2) λvu s3 ⟨u,H3,I3,pu,q3⟩=>?_);rw[evalPart_none];refine aN ?_;have I4:Inv X aA σ H3 {s3 with heap:=s3.heap.push {cls:=.type "slice",data:=.fields #[vl,vu,.none]} }:=I3.kept (t':=s3.toks) λb ob q=>aJ _ q
 obtain⟨T,id,hT,ht,hg⟩:=hr aA {s3 with heap:=s3.heap.push {cls:=.type "slice",data:=.fields #[vl,vu,.none]} } σ H3 x v vl vu l u s3.heap.objs.size Q I4 r1 (Heap.IsSliceOf.new ..) pl pu q3
 show wpAny (model X.prog X.w) X.A (subscriptTail e (.Slice lo hi none p2) v (.ref s3.heap.objs.size)) (EP X aA σ Q) X.xe {s3 with heap:=s3.heap.push {cls:=.type "slice",data:=.fields #[vl,vu,.none]} }
 exact tail_any (ops:=[.ref s3.heap.objs.size,v]) ht hT hg (by with_unfolding_all rfl)
noncomputable def ame(xs:List V)(lo hi:Option Int):List V:=(xs.drop (HT.sIx xs.length 0 lo)).take (HT.sIx xs.length xs.length hi-HT.sIx xs.length 0 lo)
theorem a5x(xs:List V)(lo hi:Option Int):(ame xs lo hi).length<=xs.length:=by
 unfold ame;rw[aR,aY];omega
def ay5(K:Fg):V->Option Int->Option Int->Hp->VK->Prop:=λx lo hi H Q=>∃a xs,x=.ref a/\SqT K H a xs /\
 ¬ (HT.sIx xs.length 0 lo=0/\HT.sIx xs.length xs.length hi=xs.length)/\∀p,H p=none->Q (.ref p) (upd H p (.tup (ame xs lo hi)))
theorem ass:SlR X (ay5 X.K):=by
 intro aA s σ H x v vl vu lo hi sl Q I rx hs pl pu h
 obtain⟨a,xs,rfl,hx,hw,q⟩:=h;cases rx
 obtain⟨its,r,ht,hz⟩:=I.tuple hx;have aH:its.toArray.size=xs.length:=by rw[ax];exact r.length.symm
 refine⟨"tuple",_,bQ.lookup,ht.typeIs,?_⟩;refine HT.a4h ht hs pl pu (by rw[aH];exact hw) ?_ (by rw[aH];exact hz)
 rw[aH];refine⟨.ref s.heap.objs.size,_,I.laid (t':=s.toks) (o:=.tup (ame xs lo hi)) (λb ob q=>aJ _ q) (a8 _) ?_,rfl,q _ (I.hok.fresh (a8 _))⟩;exact⟨bH (a5x xs lo hi) hz,_,(r.drop (HT.sIx xs.length 0 lo)).take (HT.sIx xs.length xs.length hi-HT.sIx xs.length 0 lo),TupD.new _ _⟩
noncomputable def asu(K:Fg):R2:=λx y H Q=>∃a b xs ys,x=.ref a/\y=.ref b/\SqT K H a xs/\SqT K H b ys/\xs≠[]/\xs.length+ys.length<=sizeLine /\
 (ys=[]->Q (.ref a) H)/\(ys≠[]->∀p,H p=none->Q (.ref p) (upd H p (.tup (xs++ys))))
theorem Vals.nil_iff(r:Vals xs us):us=[]↔xs=[]:=by
 cases r with
 |nil=>simp
 |cons _ _=>simp
theorem aop:OpR X (binaryOp .Add) (asu X.K):=by
 intro aA s σ H x y v u Q I rx ry h
 obtain⟨a,b,xs,ys,rfl,rfl,ha,hb,hx,hz,q1,q2⟩:=h;cases rx
 cases ry
 obtain⟨its,r1,p1,_⟩:=I.tuple ha;obtain⟨its2,r2,p2,_⟩:=I.tuple hb;refine HT.aok p1 p2 (λz=>hx (r1.nil_iff.mp z)) (λz=>⟨.ref a,H,I,rfl,q1 (r2.nil_iff.mp z)⟩) (λz=>?_) (by rw[<-r1.length,<-r2.length];exact hz)
 refine⟨.ref s.heap.objs.size,_,I.laid (t':=s.toks) (o:=.tup (xs++ys)) (λb ob q=>aJ _ q) (a8 _) ?_,rfl,q2 (λw=>z (r2.nil_iff.mpr w)) _ (I.hok.fresh (a8 _))⟩;exact⟨by rw[a9];exact hz,_,r1.append r2,TupD.new _ _⟩
end
noncomputable def ixN(n:Nat)(i:Int):Option Nat:=if 0<=i then (if i<n then some i.toNat else none) else if -(n:Int)<=i then some (i+n).toNat else none
noncomputable def atI{α:Type}(xs:List α)(i:Int):Option α:=(ixN xs.length i).bind λj=>xs[j]?
theorem aax(h:ixN n i=some j):seqIndex? i n=some j/\j<n /\ -(n:Int)<=i/\i<n:=by
 unfold ixN at h
 by_cases h0:0<=i
 .rw[ai h0]at h
  by_cases h1:i<n
  .rw[ai h1]at h;have e:i.toNat=j:=bK h;exact⟨by rw[gp h0 h1,e],by omega,by omega,h1⟩
  .rw[aL h1]at h;cases h
 .rw[aL h0]at h
  by_cases h1 : -(n:Int)<=i
  .rw[ai h1]at h;have e:(i+n).toNat=j:=bK h;exact⟨by rw[fU (by omega) h1,e],by omega,h1,by omega⟩
  .rw[aL h1]at h;cases h
theorem a83{α:Type}{xs:List α}{i:Int}{v:α}(h:atI xs i=some v):∃j,seqIndex? i xs.length=some j/\xs[j]? = some v/\j<xs.length /\ -(xs.length:Int)<=i/\i<xs.length:=by
 unfold atI at h
 cases e:ixN xs.length i with
 |none=>rw[e]at h;cases h
 |some j =>
  rw[e]at h;obtain⟨h1,h2,h3,h4⟩:=aax e;exact⟨j,h1,h,h2,h3,h4⟩
theorem uz{α:Type}{xs:List α}{j:Nat}{v:α}(h:xs[j]? = some v):atI xs (j:Int)=some v:=by
 have hj:j<xs.length:=(ae.mp h).1;have e:ixN xs.length (j:Int)=some j:=by
  unfold ixN;rw[ai (by omega),ai (by omega)];simp
 unfold atI;rw[e];exact h
def a84(b:Expr):Prop:=∀o i,subscripted b false o i=operate [o,i] (getItem o i)
def IxR(X:Cx)(r:R2):Prop :=
 ∀(value slice:Expr) (aA:List (Addr×Obj)) (s:Shared) (σ:St) (H:Hp) (x y:V) (v u:Value) (Q:VK),Inv X aA σ H s->RelV x v->RelV y u->r x y H Q->
  subscripted slice false v u=operate [v,u] (getItem v u)->wpAny (model X.prog X.w) X.A (subscriptTail value slice v u) (EP X aA σ Q) X.xe s
def MtR(X:Cx)(id:String)(r:V->List V->Hp->VK->Prop):Prop :=
 ∀(aA:List (Addr×Obj)) (s:Shared) (σ:St) (H:Hp) (x:V) (xs:List V) (v:Value) (us:List Value) (Q:VK),Inv X aA σ H s->RelV x v->Vals xs us->r x xs H Q->
  wpAny (model X.prog X.w) X.A (call (.builtin id) (v::us)) (EP X aA σ Q) X.xe s
section
variable{X:Cx}{a b:Expr}{ta tb:TE}{pos:Pos}
theorem IxR.or(h:IxR X r)(h':IxR X r'):IxR X (λx y H Q=>r x y H Q\/r' x y H Q):=by
 intro value slice aA s σ H x y v u Q I rx ry q hs
 rcases q with q|q
 .exact h value slice aA s σ H x y v u Q I rx ry q hs
 .exact h' value slice aA s σ H x y v u Q I rx ry q hs
theorem MtR.or{id:String}{r r':V->List V->Hp->VK->Prop}(h:MtR X id r)(h':MtR X id r'):MtR X id (λx xs H Q=>r x xs H Q\/r' x xs H Q):=by
 intro aA s σ H x xs v us Q I rx rs q
 rcases q with q|q
 .exact h aA s σ H x xs v us Q I rx rs q
 .exact h' aA s σ H x xs v us Q I rx rs q
theorem ay6(hr:IxR X r)(ha:PE X a ta)(hb:PE X b tb)(hs:a84 b):PE X (.Subscript a b pos) (tOp r ta tb):=by
 intro aA s σ H Q I h
 exact Subscript_ (axx ha hb I h λv u s2 x y H2 I2 rx ry q=>hr a b aA s2 σ H2 x y v u Q I2 rx ry q (hs _ _))
noncomputable def awz(K:Fg):R2:=λx y H Q=>∃p xs i v,x=.ref p/\y=.int i/\SqL K H p xs/\atI xs i=some v/\Q v H
noncomputable def b01(K:Fg):R2:=λx y H Q=>∃p xs i v,x=.ref p/\y=.int i/\SqT K H p xs/\atI xs i=some v/\Q v H
noncomputable def b02:R2:=λx y H Q=>∃z i c,x=.str z/\y=.int i/\z.length<=sizeLine/\atI z.cps.toList i=some c/\Q (.str ⟨#[c]⟩) H
theorem aoq:IxR X (awz X.K):=by
 intro value slice aA s σ H x y v u Q I rx ry h hs
 obtain⟨p,xs,i,z,rfl,rfl,hq,he,q⟩:=h;cases rx
 obtain⟨t,rfl⟩:=ry;obtain⟨its,r,pl,hz⟩:=I.list hq;obtain⟨j,h1,h2,h3,h4,h5⟩:=a83 he;obtain⟨w,ew,rw'⟩:=r.get h2;have hl:=r.length;have hn:=a4x;have fin:EP X aA σ Q w s:=⟨z,H,I,rw',q⟩
 by_cases h0:0<=i
 .have hj:i.toNat=j:=by
   rw[gp h0 h5]at h1;exact bK h1
  exact item_listR pl.isList h0 (by omega) (by rw[hj];simpa using ew) fin hs
 .have hj:(i+(its.toArray.size:Int)).toNat=j:=by
   rw[fU (by omega) h4]at h1
   rw[ax,<-hl];exact bK h1
  exact subscriptTail_builtinR (x:=w) pl.isList.typeIs slot_list_getitem.lookup
   (wpAny_getItem_list_neg (Q:=λr s'=>r=w/\EP X aA σ Q r s') pl.isList (by omega) (by rw[ax]<;>omega) (by omega) (by rw[hj];simpa using ew) ⟨rfl,fin⟩) hs
theorem a5y:IxR X (b01 X.K):=by
 intro value slice aA s σ H x y v u Q I rx ry h hs
 obtain⟨p,xs,i,z,rfl,rfl,hq,he,q⟩:=h;cases rx
 obtain⟨t,rfl⟩:=ry;obtain⟨its,r,pl,hz⟩:=I.tuple hq;obtain⟨j,h1,h2,h3,h4,h5⟩:=a83 he;obtain⟨w,ew,rw'⟩:=r.get h2;have hl:=r.length;have hn:=a4x;have fin:EP X aA σ Q w s:=⟨z,H,I,rw',q⟩;exact subscriptTail_builtinR (x:=w) pl.typeIs slot_tuple_getitem.lookup
  (getItem_tuple (j:=j) (Q:=λr s'=>r=w/\EP X aA σ Q r s') pl (by omega) (by omega) (by rw[ax,<-hl];exact h1) (by simpa using ew) ⟨rfl,fin⟩) hs
theorem asv:IxR X b02:=by
 intro value slice aA s σ H x y v u Q I rx ry h hs
 obtain⟨z,i,c,rfl,rfl,hz,he,q⟩:=h;obtain⟨t,rfl⟩:=rx;obtain⟨t',rfl⟩:=ry;obtain⟨j,h1,h2,h3,h4,h5⟩:=a83 he;have hl:z.cps.toList.length=z.length:=by simp[Str.length]
 rw[hl]at h1 h4 h5;have hn:=a4x;exact tail_any (typeIs_str s z t) slot_str_getitem.lookup (getItem_str (c:=c) (by
  have e1:decide (i < -(2^63:Int))=false:=av (by omega)
  have e2:decide (i≥2^63)=false:=av (by omega)
  rw[e1,e2,eU]) (by rw[h1];simpa using h2) ⟨.str ⟨#[c]⟩,H,I.tok _,⟨_,rfl⟩,q⟩) hs
noncomputable def rIx(K:Fg):R2:=λx y H Q=>awz K x y H Q\/b01 K x y H Q\/b02 x y H Q
theorem asw:IxR X (rIx X.K):=aoq.or (a5y.or asv)
theorem aed(its:List Value)(n j:Nat)(u:Value):Obj.mapSeq (·.setIfInBounds j u) {cls:=.type "list",data:=.seq its.toArray n}={cls:=.type "list",data:=.seq (its.set j u).toArray n}:=by
 simp[Obj.mapSeq]
theorem Inv.lst{aA:List (Addr×Obj)}{σ:St}{H:Hp}{s:Shared}{p:Addr}{xs:List V}(I:Inv X aA σ H s)(h:H p=some (.lst xs)) :
  ∃(its:List Value) (n:Nat),Vals xs its/\s.heap.get? p=some {cls:=.type "list",data:=.seq its.toArray n}/\xs.length<=sizeLine:=by
 obtain⟨z,its,n,r,e⟩:=I.hok p _ h;exact⟨its,n,r,e,z⟩
theorem Inv.lstUpd{its its':List Value}(I:Inv X aA σ H s)(h:H p=some (.lst xs))
  (ho:s.heap.get? p=some {cls:=.type "list",data:=.seq its.toArray n}) (hf:f {cls:=.type "list",data:=.seq its.toArray n}={cls:=.type "list",data:=.seq its'.toArray n' }) (r:Vals ys its') (hz:ys.length<=sizeLine) (t:Nat) :
  Inv X aA σ (upd H p (.lst ys)) {s with heap:=s.heap.update p f,toks:=t}:=by
 have e:(s.heap.update p f).get? p=some {cls:=.type "list",data:=.seq its'.toArray n' }:=by
  rw[Heap.get?_update_self f ho (by rw[hf]<;>rfl),hf]
 refine I.write (x:=p) (e:=p) (by rw[h];trivial) (.inl rfl) (λb u hb q=>(eC _ _ (dW hb)).trans q) ⟨_,e⟩ ?_
 exact⟨hz,its',n',r,e⟩
def asx:V->V->V->Hp->(Hp->Prop)->Prop:=λo i v H Q=>∃p xs k j,o=.ref p/\i=.int k/\H p=some (.lst xs)/\ixN xs.length k=some j/\Q (upd H p (.lst (xs.set j v)))
theorem set_list:axt X asx:=by
 intro aA s σ H o i v ov iv u Q I ro ri rv h
 obtain⟨p,xs,k,j,rfl,rfl,hp,hj,q⟩:=h;cases ro
 obtain⟨t,rfl⟩:=ri;obtain⟨its,n,r,ho,hz⟩:=I.lst hp;obtain⟨h1,h2,h3,h4⟩:=aax hj;have hl:=r.length;have hn:=a4x;have I':Inv X aA σ (upd H p (.lst (xs.set j v))) {s with heap:=s.heap.update p (Obj.mapSeq (·.setIfInBounds j u))} :=
  I.lstUpd hp ho (aed its n j u) (r.set rv j) (by rw[cY];exact hz) s.toks
 by_cases h0:0<=k
 .have hk:k.toNat=j:=by
   rw[gp h0 h4]at h1;exact bK h1
  exact PySem.W.ki_setAt ho h0 (by omega) (by rw[ax,<-hl];exact h4) (by rw[hk];exact⟨_,I',q⟩)
 .have hk:(k+(its.toArray.size:Int)).toNat=j:=by
   rw[fU (by omega) h3]at h1
   rw[ax,<-hl];exact bK h1
  exact PySem.W.ki_setBack ho (by omega) (by rw[ax,<-hl];exact h3) (by omega) (by rw[hk];exact⟨_,I',q⟩)
theorem a9e(lo hi:Option Int)(n:Nat):(sliceBounds lo hi none n).1=((HT.sIx n 0 lo:Nat):Int)/\(sliceBounds lo hi none n).2.1=((HT.sIx n n hi:Nat):Int)/\(sliceBounds lo hi none n).2.2=1:=by
 refine⟨?_,?_,rfl⟩
 .cases lo with
  |none=>simp[sliceBounds,HT.sIx]
  |some i =>
   simp only[sliceBounds,HT.sIx,fR,show(1:Int) > 0 by decide,dB]
   by_cases h:i<0
   .simp only[h,dB]<;>omega
   .simp only[h,dQ]<;>omega
 .cases hi with
  |none=>simp[sliceBounds,HT.sIx]
  |some i =>
   simp only[sliceBounds,HT.sIx,fR,show(1:Int) > 0 by decide,dB]
   by_cases h:i<0
   .simp only[h,dB]<;>omega
   .simp only[h,dQ]<;>omega
theorem a85(its:List Value)(lo hi:Option Int):slicePick its.toArray lo hi none=((its.drop (HT.sIx its.length 0 lo)).take (HT.sIx its.length its.length hi-HT.sIx its.length 0 lo)).toArray:=by
 obtain⟨h1,h2,h3⟩:=a9e lo hi its.toArray.size;unfold slicePick;rw[h1,h2,h3];simp only[sliceRange_one,pick_run,ax]<;>rfl
def ay7(K:Fg):V->Option Int->Option Int->Hp->VK->Prop:=λx lo hi H Q=>∃a xs,x=.ref a/\SqL K H a xs/\∀p,H p=none->Q (.ref p) (upd H p (.lst (ame xs lo hi)))
theorem aor:SlR X (ay7 X.K):=by
 intro aA s σ H x v vl vu lo hi sl Q I rx hs pl pu h
 obtain⟨a,xs,rfl,hx,q⟩:=h;cases rx
 obtain⟨its,r,ht,hz⟩:=I.list hx;have aH:=r.length;refine⟨"list",_,slot_list_getitem.lookup,ht.isList.typeIs,?_⟩;refine wpAny_getItem_list_slice ht.isList hs pl pu .none (by simp) ?_ (by rw[ax]<;>omega)
 rw[a85,<-aH];refine⟨.ref s.heap.objs.size,_,I.laid (t':=s.toks) (o:=.lst (ame xs lo hi)) (λb ob q=>aJ _ q) (a8 _) ?_,rfl,q _ (I.hok.fresh (a8 _))⟩;exact⟨bH (a5x xs lo hi) hz,_,0,(r.drop (HT.sIx xs.length 0 lo)).take (HT.sIx xs.length xs.length hi-HT.sIx xs.length 0 lo),bb _ rfl⟩
noncomputable def a2q:V->Bool
 |.non=>true
 |.bl _=>true
 |.int _=>true
 |.str _=>true
 |_=>false
noncomputable def eqV:V->V->Bool
 |.non,.non=>true
 |.bl a,.bl b=>a == b
 |.bl a,.int b=>(if a then 1 else 0) == b
 |.int a,.bl b=>a == (if b then 1 else 0)
 |.int a,.int b=>a == b
 |.str a,.str b=>a == b
 |_,_=>false
theorem afr(ry:RelV y u)(rx:RelV x v)(fy:a2q y=true)(fx:a2q x=true):SeqAt.EqAt A s u v (eqV y x):=by
 cases y with
 |non =>
  cases ry
  cases x with
  |non=>cases rx;exact SeqAt.EqAt.same _
  |bl b=>cases rx;exact SeqAt.EqAt.none_bool b
  |int b=>obtain⟨t,rfl⟩:=rx;exact SeqAt.EqAt.none_int b t
  |str b=>obtain⟨t,rfl⟩:=rx;exact SeqAt.EqAt.none_str b t
  |_=>exact absurd (show false=true from fx) aT
 |bl a =>
  cases ry
  cases x with
  |non=>cases rx;exact SeqAt.EqAt.bool_none a
  |bl b=>cases rx;exact SeqAt.EqAt.bool_bool a b
  |int b=>obtain⟨t,rfl⟩:=rx;exact SeqAt.EqAt.bool_int a b t
  |str b=>obtain⟨t,rfl⟩:=rx;exact SeqAt.EqAt.bool_str a b t
  |_=>exact absurd (show false=true from fx) aT
 |int a =>
  obtain⟨t',rfl⟩:=ry
  cases x with
  |non=>cases rx;exact SeqAt.EqAt.int_none a t'
  |bl b=>cases rx;exact SeqAt.EqAt.int_bool a t' b
  |int b=>obtain⟨t,rfl⟩:=rx;exact SeqAt.EqAt.int_int a t' b t
  |str b=>obtain⟨t,rfl⟩:=rx;exact SeqAt.EqAt.int_str a t' b t
  |_=>exact absurd (show false=true from fx) aT
 |str a =>
  obtain⟨t',rfl⟩:=ry
  cases x with
  |non=>cases rx;exact SeqAt.EqAt.str_none a t'
  |bl b=>cases rx;exact SeqAt.EqAt.str_bool a t' b
  |int b=>obtain⟨t,rfl⟩:=rx;exact SeqAt.EqAt.str_int a t' b t
  |str b=>obtain⟨t,rfl⟩:=rx;exact SeqAt.EqAt.str_str a t' b t
  |_=>exact absurd (show false=true from fx) aT
 |_=>exact absurd (show false=true from fy) aT
noncomputable def eqU(x:V)(u:Value):Bool:=match u with
 |.none=>eqV .non x
 |.bool b=>eqV (.bl b) x
 |.int i _=>eqV (.int i) x
 |.str z _=>eqV (.str z) x
 |_=>false
theorem amf(r:RelV y u)(f:a2q y=true):eqU x u=eqV y x:=by
 cases y with
 |non=>cases r;rfl
 |bl b=>cases r;rfl
 |int i=>obtain⟨t,rfl⟩:=r;rfl
 |str z=>obtain⟨t,rfl⟩:=r;rfl
 |_=>exact absurd (show false=true from f) aT
theorem a5z:∀{xs:List V} {us:List Value},Vals xs us->xs.all a2q=true->us.any (eqU x)=xs.any λy=>eqV y x
 |_,_,.nil,_=>rfl
 |y::xs,u::us,.cons r t,f=>by
  rw[bD,af]at f;rw[fL,fL,amf r f.1,a5z t f.2]
theorem a3h(rx:RelV x v)(fx:a2q x=true):∀{xs:List V} {us:List Value},Vals xs us->xs.all a2q=true->∀u∈us,SeqAt.EqAt A s u v (eqU x u)
 |_,_,.nil,_=>λu hu=>by cases hu
 |y::xs,u::us,.cons r t,f=>λu' hu=>by
  rw[bD,af]at f
  rcases aV.mp hu with rfl|hu
  .rw[amf r f.1];exact afr r rx f.1 fx
  .exact a3h rx fx t f.2 u' hu
noncomputable def inV(x:V)(xs:List V):Bool:=xs.any λy=>eqV y x
noncomputable def rIn(K:Fg)(neg:Bool):R2:=λx y H Q=>∃p xs,y=.ref p/\(SqL K H p xs\/SqT K H p xs)/\a2q x=true/\xs.all a2q=true/\Q (.bl (if neg then !inV x xs else inV x xs)) H
theorem a9f:OpR X (compareOp .In) (rIn X.K false):=by
 intro aA s σ H x y v u Q I rx ry h
 obtain⟨p,xs,rfl,hq,fx,fs,q⟩:=h;cases ry
 rcases hq with hq|hq
 .obtain⟨its,r,pl,hz⟩:=I.list hq;refine SeqAt.in_listAt (eqU x) pl.isList (λw hw=>a3h rx fx r fs w (by simpa using hw)) ⟨.bl _,H,I,rfl,?_⟩
  rw[show its.toArray.any (eqU x)=its.any (eqU x) by simp,a5z r fs]
  exact q
 .obtain⟨its,r,pl,hz⟩:=I.tuple hq;refine SeqAt.in_tupleAt (eqU x) pl (λw hw=>a3h rx fx r fs w (by simpa using hw)) ⟨.bl _,H,I,rfl,?_⟩
  rw[show its.toArray.any (eqU x)=its.any (eqU x) by simp,a5z r fs]
  exact q
theorem a9g:OpR X (compareOp .NotIn) (rIn X.K true):=by
 intro aA s σ H x y v u Q I rx ry h
 obtain⟨p,xs,rfl,hq,fx,fs,q⟩:=h;cases ry
 rcases hq with hq|hq
 .obtain⟨its,r,pl,hz⟩:=I.list hq;refine SeqAt.notIn_listAt (eqU x) pl.isList (λw hw=>a3h rx fx r fs w (by simpa using hw)) ⟨.bl _,H,I,rfl,?_⟩
  rw[show its.toArray.any (eqU x)=its.any (eqU x) by simp,a5z r fs]
  exact q
 .obtain⟨its,r,pl,hz⟩:=I.tuple hq;refine SeqAt.notIn_tupleAt (eqU x) pl (λw hw=>a3h rx fx r fs w (by simpa using hw)) ⟨.bl _,H,I,rfl,?_⟩
  rw[show its.toArray.any (eqU x)=its.any (eqU x) by simp,a5z r fs]
  exact q
theorem a9h:CallR X (.builtin "len") (λxs H Q=>∃p ys,xs=[.ref p]/\(SqL X.K H p ys\/SqT X.K H p ys)/\Q (.int ys.length) H):=by
 intro aA s σ H xs us Q I r h
 obtain⟨p,ys,rfl,hq,q⟩:=h;obtain⟨u,rfl,rx⟩:=vals1 r;cases rx
 have hn:=a4x
 rcases hq with hq|hq
 .obtain⟨its,r',pl,hz⟩:=I.list hq;have aH:=r'.length;exact Calls.call_len_list pl.isList (by simp only[ax]<;>omega) ⟨.int ys.length,H,I.tok _,⟨s.toks+1,by rw[ax,aH]⟩,q⟩
 .obtain⟨its,r',pl,hz⟩:=I.tuple hq;have aH:=r'.length;exact len_tuple pl (by simp only[ax]<;>omega) ⟨.int ys.length,H,I.tok _,⟨s.toks+1,by rw[ax,aH]⟩,q⟩
theorem a9i:CallR X (.builtin "len") (λxs H Q=>∃z,xs=[.str z]/\z.length<=sizeLine/\Q (.int z.length) H):=by
 intro aA s σ H xs us Q I r h
 obtain⟨z,rfl,hz,q⟩:=h;obtain⟨u,rfl,t,rfl⟩:=vals1 r;have hn:=a4x;exact len_str (by omega) ⟨.int z.length,H,I.tok _,⟨_,rfl⟩,q⟩
theorem CallR.or(h:CallR X f r)(h':CallR X f r'):CallR X f (λxs H Q=>r xs H Q\/r' xs H Q):=by
 intro aA s σ H xs us Q I rs q
 rcases q with q|q
 .exact h aA s σ H xs us Q I rs q
 .exact h' aA s σ H xs us Q I rs q
theorem a9j:CallR X (.type "list") (λxs H Q=>∃p ys,xs=[.ref p]/\(SqL X.K H p ys\/SqT X.K H p ys)/\∀l,H l=none->Q (.ref l) (upd H l (.lst ys))):=by
 intro aA s σ H xs us Q I r h
 obtain⟨p,ys,rfl,hq,q⟩:=h;obtain⟨u,rfl,rx⟩:=vals1 r;cases rx
 have fin:∀(its:List Value),Vals ys its->ys.length<=sizeLine->∀(h':Heap) (c':Nat),(∀b o',s.heap.get? b=some o'->h'.get? b=some o')->
   h'.get? s.heap.objs.size=some {cls:=.type "list",dict:=none,data:=.seq its.toArray c',slots := #[]}->EP X aA σ Q (.ref s.heap.objs.size) {s with heap:=h' }:=λits r' hz h' c' kp e =>
  ⟨.ref s.heap.objs.size,_,I.laid (t':=s.toks) kp (a8 _) (show ObjOk X.prog X.w _ h' _ (.lst ys) from ⟨hz,its,c',r',e⟩),rfl,q _ (I.hok.fresh (a8 _))⟩
 rcases hq with hq|hq
 .obtain⟨its,r',pl,hz⟩:=I.list hq;have aH:=r'.length;obtain⟨o,ho,hc,n,hd⟩:=pl.isList;exact call_list_seq p (.inl rfl) ho hc hd (λh' c' kp e=>fin its r' hz h' c' kp e) (by simp only[ax]<;>omega)
 .obtain⟨its,r',pl,hz⟩:=I.tuple hq;have aH:=r'.length;obtain⟨o,ho,hc,n,hd⟩:=pl;exact call_list_seq p (.inr rfl) ho hc hd (λh' c' kp e=>fin its r' hz h' c' kp e) (by simp only[ax]<;>omega)
theorem a86:CallR X (.type "tuple") (λxs H Q=>∃p ys,xs=[.ref p]/\((SqL X.K H p ys/\∀l,H l=none->Q (.ref l) (upd H l (.tup ys)))\/(SqT X.K H p ys/\Q (.ref p) H))):=by
 intro aA s σ H xs us Q I r h
 obtain⟨p,ys,rfl,h⟩:=h;obtain⟨u,rfl,rx⟩:=vals1 r;cases rx
 rcases h with⟨hq,q⟩|⟨hq,q⟩
 .obtain⟨its,r',pl,hz⟩:=I.list hq;have aH:=r'.length;refine call_tuple_list pl.isList (λh' kp=>?_) (by simp only[ax]<;>omega)
  have I1:Inv X aA σ H {s with heap:=h' }:=I.kept (t':=s.toks) kp
  have I2:Inv X aA σ (upd H h'.objs.size (.tup ys)) {s with heap:=h'.push {cls:=.type "tuple",data:=.seq its.toArray} } :=
   I1.laid (t':=s.toks) (λb o e=>aJ _ e) (a8 _) (show ObjOk X.prog X.w _ _ _ (.tup ys) from ⟨hz,its,r',TupD.new _ _⟩)
  exact⟨.ref h'.objs.size,_,I2,rfl,q _ (I1.hok.fresh (a8 _))⟩
 .obtain⟨its,r',pl,hz⟩:=I.tuple hq;exact call_tuple_same pl ⟨.ref p,H,I,rfl,q⟩
def tyV(K:Fg)(T:String)(x:V)(H:Hp):Prop:=match x with
 |.str _=>T = "str"
 |.int _=>T = "int"
 | .ref p=>(T = "list"/\∃xs,SqL K H p xs)\/(T = "tuple"/\((∃o,K.lookup p=some o/\o.cls=.type "tuple"/\o.dict=none)\/∃xs,H p=some (.tup xs))) \/
   (T = "dict"/\((∃kvs,H p=some (.dK kvs))\/∃kvs,H p=some (.dT kvs)))\/(T = "set"/\∃S n,H p=some (.set S n))
 |_=>False
theorem amg(I:Inv X aA σ H s)(r:RelV x v)(ty:tyV X.K T x H) :
  s.TypeIs v T/\∀a,v=.ref a->∃ob,s.heap.get? a=some ob/\ob.dict=none:=by
 cases x with
 |str z =>
  obtain⟨t,rfl⟩:=r
  cases (show T = "str" from ty)
  exact⟨typeIs_str s z t,λ_ e=>nomatch e⟩
 |int i =>
  obtain⟨t,rfl⟩:=r
  cases (show T = "int" from ty)
  exact⟨typeIs_int s i t,λ_ e=>nomatch e⟩
 |ref p =>
  cases r
  rcases ty with⟨rfl,xs,hq⟩|⟨rfl,⟨o,hk,hc,hd⟩|⟨xs,hk⟩⟩|⟨rfl,hk⟩|⟨rfl,S,n,hk⟩
  .obtain⟨its,_,pl,_⟩:=I.list hq;refine⟨pl.isList.typeIs,λa e=>?_⟩;cases e
   obtain⟨o,n,e,c,hd,_⟩:=pl;exact⟨o,e,hd⟩
  .refine⟨⟨o,I.kIn p o hk,hc⟩,λa e=>?_⟩;cases e
   exact⟨o,I.kIn _ o hk,hd⟩
  .obtain⟨_,_,_,o,e,c,_⟩:=(show ObjOk X.prog X.w H s.heap p (.tup xs) from I.hok p _ hk)
   exact⟨⟨o,e,c.1⟩,λa z=>by cases z;exact⟨o,e,c.2⟩⟩
  .have z:∃o,s.heap.get? p=some o/\o.ExactDict:=by
    rcases hk with⟨kvs,hk⟩|⟨kvs,hk⟩
    .obtain⟨_,_,_,_,o,_,_,e,ex,_⟩:=I.hok p _ hk;exact⟨o,e,ex⟩
    .obtain⟨_,_,_,_,o,_,_,e,ex,_⟩:=I.hok p _ hk;exact⟨o,e,ex⟩
   obtain⟨o,e,ex⟩:=z;refine⟨⟨o,e,ex.1⟩,λa e2=>?_⟩;cases e2
   exact⟨o,e,ex.2.1⟩
  .obtain⟨o,_,_,_,e,ex,_⟩:=I.hok p _ hk;refine⟨⟨o,e,ex.1⟩,λa e2=>?_⟩;cases e2
   exact⟨o,e,ex.2.1⟩
 |_=>exact False.elim ty
def tBM(K:Fg)(T:String)(r:V->List V->Hp->VK->Prop)(to:TE)(t:TA):TE:=λσ H Q=>to σ H λx H1=>tyV K T x H1/\t σ H1 λxs H2=>r x xs H2 Q
variable{o e:Expr}{es:List Expr}{to:TE}{t:TA}{name:Str}{apos cpos:Pos}{T id:String}{r:V->List V->Hp->VK->Prop}
theorem ay8(pa:PlainAttrs T)(slot:Slot T name id)(hty:typeOf (.builtin id)=pure (.type "method_descriptor"))(hm:MtR X id r)(ho:PE X o to)(ha:PA X (e::es) t)
  (hbase:attributeBase o name X.env (eval o X.env)=eval o X.env:=by rfl)
  (hfew:((backTo cpos (starEach (e::es) X.env)).all (λx => !x.1) && (backToKw cpos (keywordEach [] X.env)).all (λx=>x.1.isSome)
   && decide ((e::es).length+([]:List Keyword).length+(if ([]:List Keyword).isEmpty then 0 else 1)<30))=true:=by rfl)
  (hline:(apos.endLine == cpos.line)=true:=by rfl) (hs:starEach (e::es) X.env=(false,eval e X.env)::starEach es X.env:=by rfl) (hplain:(backTo cpos (starEach es X.env)).any (·.1)=false:=by rfl) :
  PE X (.Call (.Attribute o name apos) (e::es) [] cpos) (tBM X.K T r to t):=by
 intro aA s σ H Q I h
 refine wpAny_Call_method_late hbase hfew hline rfl (thn (ho aA s σ H _ I h) λv s1 ⟨x,H1,I1,r1,ty,q1⟩=>?_);obtain⟨h1,h2⟩:=amg I1 r1 ty;refine⟨T,id,pa,slot,hty,h1,h2,?_⟩;have hA:=ha cpos aA s1 σ H1 _ I1 q1;rw[hs]at hA ⊢;refine Calls.callWith_builtin (by show(false || (backTo cpos (starEach es X.env)).any (·.1))=false;rw[hplain]<;>rfl) (eR ?_)
 exact thn hA λus s2 ⟨vs,H2,I2,r2,q2⟩=>hm aA s2 σ H2 x vs v us Q I2 r1 r2 q2
end
def MtM(X:Cx)(id:String)(r:V->List V->Hp->VK->Prop):Prop :=
 ∀(aA:List (Addr×Obj)) (s:Shared) (σ:St) (H:Hp) (x:V) (xs:List V) (v:Value) (us:List Value) (Q:VK),Inv X aA σ H s->RelV x v->Vals xs us->r x xs H Q->
  wpAny (model X.prog X.w) X.A (call (.builtin id) (v::us)) (EP X aA σ Q) X.xe s
theorem Vals.one:∀{x:V} {us:List Value},Vals [x] us->∃u,us=[u]/\RelV x u
 |_,_,.cons r .nil=>⟨_,rfl,r⟩
theorem Vals.two:∀{x y:V} {us:List Value},Vals [x,y] us->∃u v,us=[u,v]/\RelV x u/\RelV y v
 |_,_,_,.cons r (.cons q .nil)=>⟨_,_,rfl,r,q⟩
theorem Vals.zero:∀{us:List Value},Vals [] us->us=[]
 |_,.nil=>rfl
theorem Vals.eraseIdx:∀{xs:List V} {us:List Value} (i:Nat),Vals xs us->Vals (xs.eraseIdx i) (us.eraseIdx i)
 |_,_,_,.nil=>.nil
 |_,_,0,.cons _ t=>t
 |_,_,i+1,.cons r t=>.cons r (Vals.eraseIdx i t)
theorem Vals.rep(h:Vals xs us):∀k:Nat,Vals (List.replicate k xs).flatten (List.replicate k us).flatten
 |0=>.nil
 |k+1=>by
  rw[cI,cI,bW,bW];exact Vals.append h (Vals.rep h k)
theorem a9k{α:Type}:∀(l:List α) (i:Nat),(l.eraseIdx i).length<=l.length
 |[],_=>a8 _
 |_::_,0=>Nat.le_succ _
 |_::r,i+1=>Nat.succ_le_succ (a9k r i)
theorem foldl_rep(its:List Value):∀(k:Nat) (acc:List Value),
  List.foldl (λx1 x2=>x1++x2) acc.toArray (List.replicate k its.toArray)=(acc++(List.replicate k its).flatten).toArray
 |0,acc=>by simp
 |k+1,acc=>by
  have e:acc.toArray++its.toArray=(acc++its).toArray:=by simp
  have e2:(acc++its)++(List.replicate k its).flatten=acc++(List.replicate (k+1) its).flatten:=by
   rw[cI,bW,c9]
  rw[<-e2,<-foldl_rep its k (acc++its),<-e,cI,dH]
section
variable{X:Cx}{aA:List (Addr×Obj)}{σ:St}{H:Hp}{s:Shared}{l b:Addr}{xs ys zs:List V}
theorem Inv.lset{its its':List Value}(I:Inv X aA σ H s)(hH:H l=some (.lst xs))
  (e:s.heap.get? l=some {cls:=.type "list",data:=.seq its.toArray n}) (hf:f its.toArray=its'.toArray) (hv:Vals ys its') (hz:ys.length<=sizeLine) :
  Inv X aA σ (upd H l (.lst ys)) {s with heap:=s.heap.update l (Obj.mapSeq f),toks:=t' }:=by
 have q:=PySem.IsL.update e f;rw[hf]at q;refine I.write (x:=l) (e:=l) (by rw[hH];exact trivial) (.inl rfl) (λb' u hb hu=>(eC s.heap (Obj.mapSeq f) (dW hb)).trans hu) ⟨_,q⟩ ?_
 exact⟨hz,its',_,hv,q⟩
theorem Inv.lnew(I:Inv X aA σ H s)(hv:Vals ys its)(hz:ys.length<=sizeLine) :
  Inv X aA σ (upd H s.heap.objs.size (.lst ys)) {s with heap:=s.heap.push {cls:=.type "list",data:=.seq its.toArray},toks:=t' } :=
 I.laid (λ_ _ q=>aJ _ q) (a8 _) ⟨hz,its,0,hv,bb _ rfl⟩
theorem Inv.fresh(I:Inv X aA σ H s):H s.heap.objs.size=none:=I.hok.fresh (a8 _)
theorem Inv.lstM(I:Inv X aA σ H s)(hH:H l=some (.lst xs)):xs.length<=sizeLine/\∃(its:List Value) (n:Nat),Vals xs its/\xs.length=its.length/\s.heap.get? l=some {cls:=.type "list",data:=.seq its.toArray n}:=by
 obtain⟨z,its,n,r,e⟩:=I.hok l _ hH;exact⟨z,its,n,r,r.length,e⟩
theorem a3i(h:n<=sizeLine):Builtin.List.listTooLong n=false:=by
 unfold Builtin.List.listTooLong;exact av (by omega)
end
section
variable{X:Cx}
def afs:V->List V->Hp->VK->Prop:=λx vs H Q=>∃l xs y,x=.ref l/\vs=[y]/\H l=some (.lst xs)/\xs.length<sizeLine/\Q .non (upd H l (.lst (xs++[y])))
theorem aft:MtM X "list.append" afs:=by
 intro aA s σ H x vs v us Q I rx rv h
 obtain⟨l,xs,y,rfl,rfl,hH,hz,q⟩:=h;cases rx
 obtain⟨u,rfl,ru⟩:=rv.one;obtain⟨z,its,n,r,hl,e⟩:=I.lstM hH;refine e7 F.slot_list_append ⟨_,e,rfl⟩ F.entry_list_append (F.args_list_append_2 _ _) (PySem.list_append l its.toArray n u (by rw[ax];omega)) ⟨e,?_⟩
 refine⟨.non,_,I.lset (its':=its++[u]) hH e (by simp) (r.append (.cons ru .nil)) ?_,rfl,q⟩
 rw[a9,ay];omega
def amh:V->List V->Hp->VK->Prop:=λx vs H Q=>∃l xs i k y,x=.ref l/\vs=[.int i]/\H l=some (.lst xs) /\ -(2^63)<=i/\i<2^63/\seqIndex? i xs.length=some k/\xs[k]? = some y/\Q y (upd H l (.lst (xs.eraseIdx k)))
theorem ajl:MtM X "list.pop" amh:=by
 intro aA s σ H x vs v us Q I rx rv h
 obtain⟨l,xs,i,k,y,rfl,rfl,hH,h1,h2,hk,hy,q⟩:=h;cases rx
 obtain⟨u,rfl,ru⟩:=rv.one;obtain⟨t,rfl⟩:=ru;obtain⟨z,its,n,r,hl,e⟩:=I.lstM hH;obtain⟨w,hw,rw'⟩:=r.get hy;refine e7 F.slot_list_pop ⟨_,e,rfl⟩ F.entry_list_pop (F.args_list_pop_2 _ _)
  (MeetsSeq.list_pop_at l its.toArray n i t k w (fitsIndex_both h1 h2) (by rw[ax,<-hl];exact hk) (by rw[<-Array.getElem?_toList];exact hw) (by rw[ax];omega)) ⟨e,?_⟩
 refine⟨y,_,I.lset (its':=its.eraseIdx k) hH e ?_ (r.eraseIdx k) ?_,rw',q⟩
 .show its.toArray.eraseIdxIfInBounds k=(its.eraseIdx k).toArray;rw[List.eraseIdxIfInBounds_toArray]
 .have:=a9k xs k
  omega
theorem len_rep{α:Type}(xs:List α)(k:Nat):(List.replicate k xs).flatten.length=k*xs.length:=by
 induction k with
 |zero=>simp
 |succ k ih=>rw[cI,bW,a9,ih,dI,eH]
end
section
variable{prog:Program}{w:World}{A:Around}{E:Value->Shared->Prop}{s:Shared}
theorem afu(its its2:List Value)(a c:Nat):its.toArray.extract 0 a++its2.toArray++its.toArray.extract c its.toArray.size=(its.take a++its2++its.drop c).toArray:=by
 apply Array.toList_inj.mp
 first
  | (simp
     exact bB (by simp))
  |simp[bB]
  |simp
theorem aee{a c n:Nat}(hac:a<=c)(hc:c<=n):sliceBounds (some (a:Int)) (some (c:Int)) none n=((a:Int),(c:Int),1):=by
 simp only[sliceBounds,fR];have h1:¬ ((a:Int)<0):=by omega
 have h2:¬ ((c:Int)<0):=by omega
 simp only[h1,h2,dQ,show(1:Int) > 0 by decide,dB]
 congr 1
 .omega
 .congr 1;omega
set_option maxRecDepth 100000 in
theorem a87{aC new:Array Value}{n n2:Nat}{a c:Nat}
  (e:s.heap.get? l=some {cls:=.type "list",data:=.seq aC n}) (e2:s.heap.get? b=some {cls:=.type "list",data:=.seq new n2}) (hne:l≠b)
  (hs:s.heap.IsSliceOf sl vl vu .none) (pl:IsPart vl (some (a:Int))) (pu:IsPart vu (some (c:Int))) (hac:a<=c) (hc:c<=aC.size)
  (hsz:aC.size+new.size<=sizeLine) (h:Q () {s with heap:=s.heap.update l (Obj.mapSeq λxs=>xs.extract 0 a++new++xs.extract c xs.size)}) :
  wpAny (model prog w) A (setItem (.ref l) (.ref sl) (.ref b)) Q E s:=by
 have hl:s.heap.IsList l aC:=PySem.IsL.isList e;have hb:s.heap.IsList b new:=PySem.IsL.isList e2;obtain⟨os,hos,hcs,hds⟩:=id hs;have hTs:s.TypeIs (.ref sl) "slice":=⟨os,hos,hcs⟩;have hstep:¬ ((rawPart none == rawInt 0)=true):=aT;have hsame:Builtin.List.listSameRef (.ref l) (.ref b)=false:=by
  unfold Builtin.List.listSameRef;exact bN.mpr hne
 have hmax:(max (a:Int) (c:Int)).toNat=c:=by omega
 have hz':((λxs:Array Value=>xs.extract 0 a++new++xs.extract c xs.size) aC).size<=sizeLine+1:=by
  simp only[Array.size_append,Array.size_extract];omega
 unfold setItem
 try with_reducible refine cD ?_
 first|refine ag (aN ?_)|skip
 refine ag (fF hl.typeIs (by decide) ?_)
 refine ag (e8 (name:=Str.ofString "__setitem__") hl.typeIs slot_list_setitem
  (fQ slot_list_setitem hl.typeIs entry_list_setitem ?_ (args_list_setitem _ _ _)))
 show wpAny _ _ (Builtin.List.listSubscript? (.ref sl)>>=_) _ _ s;refine ag ?_;unfold Builtin.List.listSubscript?;refine ag (wpAny_specialOf hTs slice_no_index ?_);simp only[Option.isNone_none,dB];refine aN ?_;show wpAny _ _ (typeOf (.ref sl)>>=_) _ _ s;refine ag (fv hTs ?_)
 first
  |rw[aL (by decide)]
  |refine fw (by decide) ?_
 rw[listSliceParts_eq];refine ag (ag (eX hos hds (x:=.none) rfl (ag (wpAny_listPart .none ?_))));rw[aL hstep];refine ag (eX hos hds (x:=vl) rfl (ag (wpAny_listPart pl ?_)));refine ag (eX hos hds (x:=vu) rfl (ag (wpAny_listPart pu (aN ?_))))
 first
  |simp only[hsame,c4,dQ]
  |refine fw hsame ?_
  | (dsimp only
     rw[aL (by rw[hsame];exact aT)])
 refine ag (m:=Builtin.List.listAllItems (.ref b) "must assign iterable to extended slice") ?_;unfold Builtin.List.listAllItems;refine ag (fv hb.typeIs ?_)
 first
  |refine PySem.W.KFB.if_so (by decide) ?_
  |rw[ai (by decide)]
  |simp only[cM,fV,dB]
 unfold Builtin.List.listItems;refine ag (wpAny_seqItems e2 rfl (aN ?_));refine ag (ag (wpAny_seqItems e rfl (aN ?_)));refine ag (wpAny_of_eq ((sliceIndices_raw (some (a:Int)) (some (c:Int)) none aC.size (by simp)).trans (ah (pure:Int×Int×Int->Sem (Int×Int×Int)) (aee hac hc))) ?_)
 show wpAny _ _ (if ((1:Int) == 1)=true then _ else _) _ _ s
 rw[ai (by decide)]
 refine ag (wpAny_rule ?_)
 first
  |simp only[a3i hsz,c4,dQ]
  |refine fw (a3i hsz) ?_
 first|refine ag (aN ?_)|skip
 show wpAny _ _ (updateSeq l (λxs=>xs.extract 0 ((a:Int)).toNat++new++xs.extract (max (a:Int) (c:Int)).toNat xs.size)>>=_) _ _ s;rw[hmax,dP];refine ag (wpAny_updateSeq (hz:=bH (Nat.le_add_right _ _) hsz) (_hz':=hz') e rfl ?_);refine ag (wpAny_letGo ?_)
 first
  |exact ag (aN (aN ⟨.none,rfl,aN h⟩))
  |exact aN ⟨.none,rfl,aN h⟩
end
end L2
namespace Att
open PySem.W PySem.Calls PyProof.Rows
theorem a65:∀(ns:List Int) (vs:List Value),WellAll P h vs (ns.map WData.int)->IntsAre vs ns:=by
 intro ns
 induction ns with
 |nil =>
  intro vs w
  rw[cN]at w;cases w
  exact .nil
 |cons n ns ih =>
  intro vs w
  rw[b6]at w
  cases w with
  |cons a b =>
   cases a
   exact .cons _ _ (ih _ b)
theorem afv{l:OpenLaw}(hn:l.most=some n)
  (hpre:l.row.toRowW.claim.pre args=true) (hwl:WellAll P h vals args) :
  ∃a vs ns,vals=[Value.ref a]/\args=[WData.list (ns.map WData.int)]/\h.get? a=some {cls:=.type "list",data:=.seq vs.toArray}/\IntsAre vs ns/\ns.length<=n:=by
 have hsh:WShape.hasAll [] args [.list .int]=true:=(pre_splitW hpre).1;have hc:l.pre.holds [] {args:=args}=true:=(pre_splitW hpre).2;obtain⟨d,r,rfl,h1,h2⟩:=hasAllW_cons hsh;obtain rfl:=hasAllW_nil h2;obtain⟨xs,rfl,h3⟩:=hasW_list h1;obtain⟨ns,rfl⟩:=items_int h3;have aH:ns.length<=n:=by
  unfold OpenLaw.pre at hc;have h4:(WTm.not (.lt (.lit (.int (n:Int))) (.len (.arg 0)))).holds [] {args:=[.list (ns.map .int)]}=true:=by
   have h4:=(holds_andW hc).1;rw[hn]at h4;exact h4
  have h5:=condW_of h4 (w_not (w_lt w_lit (w_len_list (w_arg rfl))));rw[aE]at h5;refine Nat.le_of_not_lt λq=>?_;have q':(n:Int)<((ns.length:Nat):Int):=by omega
  first
   |(rw[aw q']at h5;exact absurd h5 (by decide))
   |(simp at h5;omega)
 cases hwl with
 |cons w1 w2 =>
  cases w2
  cases w1 with
  |list ho hall=>exact⟨_,_,ns,rfl,rfl,ho,a65 ns _ hall,aH⟩
theorem afw(l:OpenLaw)(args:List WData):l.row.toRowW.claim.post args (.bool true) args=true :=
 postW_of (r:=l.row.toRowW) (X:=(true == true))
  (show WShape.has [] (.bool true) .bool=true by first|rfl|decide|simp[WShape.has,WShape.arms,WShape.armsAll])
  (show(WTm.eq .res (.lit (.bool true))).value [] {args:=args,res:=some (.bool true),after:=args}=some (.bool (true == true)) from w_eq_bool (w_res rfl) w_lit) rfl
theorem aay{l:OpenLaw}{d:DefRec}
  (hn:l.most=some n) (hdf:d.params.defaults=[])
  (call:∀(w:World) (s₀ s₁:Shared) (mg mb:Str->Option Value) (fa:Addr) (o:Obj) (pm cd doc:Value) (a:Addr) (vs:List Value) (ns:List Int),
   Ground q loose [] XP w s₀ mg mb s₁.heap->YP w s₁.heap->
   s₁.heap.get? fa=some o->o.data=.func (docDef d.name d.params d.body d.scope pm cd doc)->s₁.heap.CodeRec cd d.name->mg d.name=some (.ref fa)->
   s₁.heap.get? a=some {cls:=.type "list",data:=.seq vs.toArray}->IntsAre vs ns->ns.length<=n->s₁.gens = #[]->
   codeAny (model l.prog w) callerA (.call (.ref fa) ⟨[.ref a],[]⟩) (λr s'=>r=.ok (.ret (.bool true))/\OldK s₁.heap s'.heap/\s'.os=s₁.os/\AllBare s'.gens) s₁) :
  WalkO q loose XP YP l.row.toRowW d [] (λf vs=>PySem.call f vs):=by
 intro w s₀ s₁ mg mb G Y fa o pm cd doc dV kV ho hd hcd hD hmg hg args vals as hpre hlay hrd hwl hlo
 obtain rfl:dV=.none:=Dflts.none hD hdf
 obtain rfl:kV=.none:=Dflts.noKw hD
 obtain⟨a,vs,ns,rfl,rfl,hobj,hints,aH⟩:=afv hn hpre hwl;refine enter_call (eG (call w s₀ s₁ mg mb fa o pm cd doc a vs ns G Y ho (fd_plain hd) hcd hmg hobj hints aH hg) λr s' hq=>?_);obtain⟨rfl,h2,h3,h4⟩:=hq;exact⟨.inl ⟨.bool true,.bool true,[],rfl,λ_=>rfl,.bool true,afw l _,λ_=>⟨List.Pairwise.nil,λ_ hm=>(nomatch hm)⟩⟩,h2,h3,h4⟩
end Att
namespace L2
open PyProof.Rows
theorem a9l:∀{vs:List Value} {ns:List Int},IntsAre vs ns->Vals (ns.map V.int) vs
 |_,_,.nil=>.nil
 |_,_,.cons n t h=>.cons ⟨t,rfl⟩ (a9l h)
def Only(H:Hp):Prop:=∀b,H b=none\/∃o xs,H b=some (.frz o (.lst xs))
theorem ajm{K:Fg}{s₁:Shared}{vs:List Value}
  (KX:K.In s₁.heap) (hns:s₁.heap.Ns mainGlobals mg) (hb:s₁.heap.Ns builtinsNs mb) (hbb:∀x:Str,x ≠ "__name__"->mb x=bootBuiltins x) (hlim:s₁.heap.NoLimit) (hg:s₁.gens = #[])
  (ha:s₁.heap.get? a=some {cls:=.type "list",data:=.seq vs.toArray}) (hi:IntsAre vs ns) (hl:ns.length<=sizeLine) (hr:Room k callerA)
  (F:∀base:Heap,K.In base->base.Ns mainGlobals mg->FnOk P w K mg base CX k fa fd [x] sp) (hbind:∀(s:Shared) (u:Value),BindsTo s fd ⟨[u],[]⟩ [(x,u)])
  (hsp:∀H:Hp,Only H->SqL K H a (ns.map V.int)->sp [.ref a] H (λv _=>v=.bl true) λ_ _ _=>False)
  (hCX:∀H e s',CX [] H s₁ (λ_ _ _=>False) e s'->False) :
  codeAny (model P w) callerA (.call (.ref fa) ⟨[.ref a],[]⟩) (λr s'=>r=.ok (.ret (.bool true))/\OldK s₁.heap s'.heap/\s'.os=s₁.os/\AllBare s'.gens) s₁:=by
 have rv:=a9l hi;have lenV:=hi.length;have core:∀H:Hp,Only H->SqL K H a (ns.map V.int)->HOk P w H s₁.heap->(∀b,H b≠none->b=a)->(H a≠none->K.lookup a=none)->
   codeAny (model P w) callerA (.call (.ref fa) ⟨[.ref a],[]⟩) (λr s'=>r=.ok (.ret (.bool true))/\OldK s₁.heap s'.heap/\s'.os=s₁.os/\AllBare s'.gens) s₁:=by
  intro H hO hS hok hA hK
  have base_of:∀{b:Addr} {o:Obj},s₁.heap.get? b=some o->H b=none->(aj3 s₁.heap H).get? b=some o:=λe n=>aj4 e n;have noA:∀{b:Addr} {o:Obj} {es:Array DictEntry} {ep:Nat},s₁.heap.get? b=some o->o.data=.dict es ep->H b=none:=λ{b o es ep} e d=>by
   cases q:H b with
   |none=>rfl
   |some u =>
    have e':b=a:=hA b (by rw[q];simp)
    subst e';rw[ha]at e;cases e
    have d':Data.seq vs.toArray _=Data.dict es ep:=d
    cases d'
  have nsK:∀{b:Addr} {m:Str->Option Value},s₁.heap.Ns b m->(aj3 s₁.heap H).Ns b m:=λ{b m} ⟨o,es,ep,e,d,r⟩=>⟨o,es,ep,base_of e (noA e d),d,r⟩;have hKb:K.In (aj3 s₁.heap H):=λb o e=>base_of (KX b o e) (by
   cases q:H b with
   |none=>rfl
   |some u =>
    have e':b=a:=hA b (by rw[q];simp)
    subst e';rw[hK (by rw[q];simp)]at e;cases e)
  have hM:Mod K mg (aj3 s₁.heap H):=⟨hKb,nsK hns,⟨mb,nsK hb,hbb⟩,let ⟨mc,h1,h2⟩:=hlim; ⟨mc,nsK h1,h2⟩⟩;have e0:Env0 P w K mg (aj3 s₁.heap H) callerA [] s₁ H:=⟨rfl,hM,λb o e=>ao6 e,Nat.le_of_eq (af6 _ _),trivial,λb hb=>absurd (show b∈([]:List Addr) from hb) (by simp),hok,.of_eq hg⟩
  refine eG ((F _ hKb (nsK hns)).run callerA [] s₁ H ⟨[.ref a],[]⟩ [.ref a] [.ref a] _ _ hr e0 (hbind s₁ (.ref a)) (.cons rfl .nil) (hsp H hO hS)) λr s' h=>?_
  cases r with
  |error e=>exact(hCX H e s' h).elim
  |ok fl =>
   cases fl with
   |next=>exact False.elim h
   |brk=>exact False.elim h
   |cont=>exact False.elim h
   |ret u =>
    obtain⟨v,H',os,bare,un,hok',r',q⟩:=h;have q':v=.bl true:=q;subst q';obtain rfl:u=Value.bool true:=r';refine⟨rfl,OldK.of_keep λb o e=>?_,os,bare⟩
    cases q:H b with
    |none=>exact un.keep b o e q (by intro z;exact absurd (show b∈([]:List Addr) from z) (by simp)) (by simp)
    |some u =>
     rcases hO b with z|⟨ob,xs,z⟩
     .rw[q]at z;cases z
     .have z2:=un.frzs b ob _ z;obtain⟨e1,_⟩:=hok b _ z;obtain⟨e2,_⟩:=hok' b _ z2;rw[e]at e1;cases e1
      exact e2
 cases hk:K.lookup a with
 |some o =>
  have e:=KX a o hk;rw[ha]at e;cases e
  refine core (λ_=>none) (λ_=>.inl rfl) (.inr ⟨_,vs.toArray,_,hk,rfl,rfl,rfl,by rw[ax,lenV];exact hl,by simpa using rv⟩) (λb u z=>by have z':(none:Option HO)=some u:=z;cases z') (λb z=>absurd rfl z) λz=>absurd rfl z
 |none =>
  refine core (λb=>if b=a then some (.frz {cls:=.type "list",data:=.seq vs.toArray} (.lst (ns.map V.int))) else none) (λb=>?_) (.inl (.inr ⟨{cls:=.type "list",data:=.seq vs.toArray},ai rfl⟩)) (λb u z=>?_) (λb z=>?_) λ_=>hk
  .by_cases hb:b=a
   .exact .inr ⟨_,_,ai hb⟩
   .exact .inl (aL hb)
  .by_cases hb:b=a
   .have z':=(ai hb).symm.trans z
    cases z'
    subst hb;exact⟨ha,by rw[aE];exact hl,vs,_,rv,ha⟩
   .have z':=(aL hb).symm.trans z
    cases z'
  .by_cases hb:b=a
   .exact hb
   .exact absurd (aL hb) z
theorem aos{l:PySem.W.OpenLaw}{n k:Nat}{q:Program}{loose:List Str}{XP:(Str->Option Value)->Heap->Prop}{YP:World->Heap->Prop}{d:DefRec}{K:Params->Fg}{CX:World->CXT}{sp:World->Sp}{x:Str}
  (hn:l.most=some n) (hn2:n<=sizeLine) (hdf:d.params.defaults=[]) (hr:Room k callerA)
  (hY:∀(w:World) (h:Heap),YP w h->(K w.params).In h)
  (F:∀(w:World) (mg:Str->Option Value) (fa:Addr) (h:Heap),(K w.params).In h->h.Ns mainGlobals mg->mg d.name=some (.ref fa)->
   ∃fd:FuncData,(∀(s:Shared) (u:Value),BindsTo s fd ⟨[u],[]⟩ [(x,u)]) /\
    ∀base:Heap,(K w.params).In base->base.Ns mainGlobals mg->FnOk l.prog w (K w.params) mg base (CX w) k fa fd [x] (sp w))
  (hsp:∀(w:World) (H:Hp) (a:Addr) (ns:List Int),ns.length<=n->Only H->SqL (K w.params) H a (ns.map V.int)->sp w [.ref a] H (λv _=>v=.bl true) λ_ _ _=>False)
  (hCX:∀(w:World) (H:Hp) (s:Shared) (e:Value) (s':Shared),CX w [] H s (λ_ _ _=>False) e s'->False) :
  PySem.W.WalkO q loose XP YP l.row.toRowW d [] (λf vs=>PySem.call f vs):=by
 refine Att.aay hn hdf λw s₀ s₁ mg mb fa o pm cd doc a vs ns G Y ho hd hcd hmg hobj hints aH hg=>?_;have KX:=hY w _ Y;obtain⟨fd,hb,hF⟩:=F w mg fa _ KX G.T.g hmg;exact ajm KX G.T.g G.T.b G.T.builtins G.T.nolimit hg hobj hints (bH aH hn2) hr hF hb (λH hO hS=>hsp w H a ns aH hO hS) λH e s'=>hCX w H s₁ e s'
noncomputable def a2r(s:Stmt):Arguments:=match s with
 |.FunctionDef _ a _ _ _ _ _ _ _ _=>a
 |_=>{posonlyargs:=[],args:=[],vararg:=none,kwonlyargs:=[],kw_defaults:=[],kwarg:=none,defaults:=[]}
noncomputable def qd(s:Stmt):List Stmt:=match s with
 |.FunctionDef _ _ b _ _ _ _ _ _ _=>b
 |_=>[]
noncomputable def fj(s:Stmt):Scope:=match s with
 |.FunctionDef _ _ _ _ _ _ sc _ _ _=>sc
 |_=>{kind:=.function,names:=[],isGenerator:=false,isCoroutine:=false}
abbrev CX0:CXT:=λ_ _ _ _ _ _=>False
abbrev E0:XK:=λ_ _ _=>False
theorem aot:a7f CX0 X E0:=λ_ _ _ _ _ _ _ h=>h.elim
structure Fun (K:Fg) (x qual:Str) (st:Stmt) (f:Addr) (fd:FuncData):Prop where
 ex:∃(oc:Value) (od:Option Addr) (kV doc pm:Value) (an:Option Addr) (cdv ct:Value) (osl:Array (Option Value)),
  fd=PySem.W.fnOf x qual (a2r st) (qd st) (fj st) .none kV doc pm an cdv ct/\K.lookup f=some ⟨oc,od,.func fd,osl⟩/\PySem.W.codeIn K cdv qual=true
 kp:PySem.W.keepIn K (.ref f)=true
section
variable{P:Program}{w:World}{K:Fg}{mg:Str->Option Value}{base:Heap}
theorem Fun.ok{x qual:Str}{st:Stmt}{f:Addr}{fd:FuncData}{N ps:List Str}{k:Nat}{sp:Sp}(F:Fun K x qual st f fd)(S:FnScope N ps (fj st))(len:∀vs H Q E,sp vs H Q E->vs.length=ps.length)
  (hbody:∀(cdv:Value) (A:Around) (outer:List Env) (s:Shared) (H:Hp) (vs:List V) (Q:VK) (E:XK),Room k (A.deeper (envOfC qual (fj st) s.heap.objs.size f cdv))->sp vs H Q E->
   ∃t,PSs (afm CX0 P w K mg base N qual (fj st) f cdv A outer s H E).nox (qd st) t/\t {nx:=λ_ H'=>Q .non H',rt:=Q} (start N vs) H):FnOk P w K mg base CX0 (k+1) f fd ps sp:=by
 obtain⟨oc,od,kV,doc,pm,an,cdv,ct,osl,rfl,lk,hcd⟩:=F.ex;refine asr lk hcd S len λA outer s H vs Q E hr hsp=>?_;obtain⟨t,h,q⟩:=hbody cdv A outer s H vs Q E hr hsp;exact⟨t,h.nox,q⟩
theorem Fun.binds{x qual:Str}{st:Stmt}{f:Addr}{fd:FuncData}{ps:List Str}(F:Fun K x qual st f fd)
  (h:∀(kV doc pm:Value) (an:Option Addr) (cdv ct:Value) (us:List Value),us.length=ps.length->bindArgs (PySem.W.fnOf x qual (a2r st) (qd st) (fj st) .none kV doc pm an cdv ct) ⟨us,[]⟩=pure (ps.zip us)):Binds K fd ps []:=by
 obtain⟨oc,od,kV,doc,pm,an,cdv,ct,osl,rfl,lk,hcd⟩:=F.ex;exact .all (h kV doc pm an cdv ct)
theorem asy{x qual:Str}{st:Stmt}{f:Addr}{oc:Value}{od an:Option Addr}{osl:Array (Option Value)}{kV doc pm cdv ct:Value}(l:K.lookup f=some ⟨oc,od,.func (PySem.W.fnOf x qual (a2r st) (qd st) (fj st) .none kV doc pm an cdv ct),osl⟩)
  (c:PySem.W.codeIn K cdv qual=true) (k:PySem.W.keepIn K (.ref f)=true):Fun K x qual st f (PySem.W.fnOf x qual (a2r st) (qd st) (fj st) .none kV doc pm an cdv ct):=⟨⟨oc,od,kV,doc,pm,an,cdv,ct,osl,rfl,l,c⟩,k⟩
end
end L2
namespace L2
open PyProof.Rows
noncomputable def pkH(k:Int×List Int):Int:=reduceHash (Builtin.Tuple.tupleHashOf [hashInt k.1,reduceHash (Builtin.Tuple.tupleHashOf (k.2.map hashInt))])
abbrev NE:=(Int×List Int)×Addr×V
abbrev NX:=(Int×List Int)×Addr×Value
noncomputable def b13(x:NX):DictEntry:=⟨pkH x.1,.ref x.2.1,x.2.2⟩
def NEX(e:NE)(x:NX):Prop:=e.1=x.1/\e.2.1=x.2.1/\RelV e.2.2 x.2.2
def dAt(a:Addr)(ent:List NE):Heap->Prop:=λh=>(a == sysModules)=false/\∃xs:List NX,Paired NEX ent xs/\∃o es ep,h.get? a=some o/\o.ExactDict/\o.data=.dict es ep/\es.toList=xs.map b13
def NKey(H:Hp)(b:Addr)(k:Int×List Int):Prop:=∃c,H b=some (.tup [.int k.1,.ref c])/\H c=some (.tup (k.2.map V.int))
structure NDict (H:Hp) (a:Addr) (ent:List NE):Prop where
 has:H a=some (.ext (dAt a ent))
 keys:∀e∈ent,NKey H e.2.1 e.1
 nd:(ent.map (·.1)).Nodup
 len:ent.length<=sizeLine
def NDE(H:Hp)(a:Addr)(ent:List NE):Prop:=(NDict H a ent/\ent≠[])\/(H a=some (.dK [])/\ent=[])
noncomputable def ay9(ent:List NE):List ((Int×List Int)×V):=ent.map λe=>(e.1,e.2.2)
section
variable{P:Program}{w:World}{H:Hp}{h:Heap}{a:Addr}
theorem NKey.keeps{H':Hp}{k:Int×List Int}(e:NKey H a k)(ht:∀b ys,H b=some (.tup ys)->H' b=some (.tup ys)):NKey H' a k:=let ⟨c,e1,e2⟩:=e; ⟨c,ht _ _ e1,ht _ _ e2⟩
theorem NDE.keeps{H':Hp}{ent:List NE}(e:NDE H a ent)(ea:H' a=H a)(ht:∀b ys,H b=some (.tup ys)->H' b=some (.tup ys)):NDE H' a ent:=by
 rcases e with⟨e,z⟩|⟨e,r⟩
 .exact .inl ⟨⟨by rw[ea];exact e.has,λx hx=>(e.keys x hx).keeps ht,e.nd,e.len⟩,z⟩
 .exact .inr ⟨by rw[ea];exact e,r⟩
theorem NDE.nd{ent:List NE}(e:NDE H a ent):(ent.map (·.1)).Nodup:=by
 rcases e with⟨e,_⟩|⟨_,rfl⟩
 .exact e.nd
 .exact dD
end
section
variable{X:Cx}{aA:List (Addr×Obj)}{σ:St}{H:Hp}{s:Shared}{a:Addr}{y v:V}{u r:Value}{o:Option V}{A:Around}{E:Value->Shared->Prop}
theorem Inv.big(I:Inv X aA σ H s):sysModules<s.heap.objs.size:=by
 have h:mainGlobals<s.heap.objs.size:=(I.mod.glob.keeps I.bk).lt;exact Nat.lt_trans (by decide) h
end
theorem ajn{P:Program}{w:World}{H:Hp}(h:Heap)(hb:sysModules<h.objs.size):ObjOk P w H (h.push {cls:=.type "dict",data:=.dict #[]}) h.objs.size (.dK []) :=
 ⟨bE _,bN.mpr (dW (bY hb)),[],.nil,Heap.DictOf.new h⟩
noncomputable def asz:TE:=λ_ H Q=>∀p,H p=none->Q (.ref p) (upd H p (.dK []))
section
variable{X:Cx}{pos:Pos}
theorem ajo:PE X (.Dict [] [] pos) asz:=λaA s σ H Q I h =>
 wpAny_Dict_empty ⟨.ref s.heap.objs.size,_,I.laid (a:=s.heap.objs.size) (o:=.dK []) (t':=s.toks) (λ_ _ q=>aJ _ q) (a8 _) (ajn s.heap I.big),rfl,h _ (I.hok.fresh (a8 _))⟩
end
section
variable{X:Cx}
theorem aaz:OpR X (compareOp .IsNot) (λx y H Q=>∃i j,x=.bl i/\y=.bl j/\Q (.bl (i != j)) H):=by
 intro aA s σ H x y v u Q I rx ry h
 obtain⟨i,j,rfl,rfl,q⟩:=h;cases rx
 cases ry
 exact isnot_bool (a7d I q rfl)
theorem v5:OpR X (compareOp .LtE) (λx y H Q=>∃i j,x=.str i/\y=.str j/\Q (.bl (!decide (j.cps.toList<i.cps.toList))) H):=by
 intro aA s σ H x y v u Q I rx ry h
 obtain⟨i,j,rfl,rfl,q⟩:=h;obtain⟨t,rfl⟩:=rx;obtain⟨t',rfl⟩:=ry;exact PySem.P.le_str (a7d I q rfl)
noncomputable def a72{α:Type}(xs:List α)(lo hi:Option Int):List α:=(xs.drop (HT.sIx xs.length 0 lo)).take (HT.sIx xs.length xs.length hi-HT.sIx xs.length 0 lo)
def aya:V->Option Int->Option Int->Hp->VK->Prop:=λx lo hi H Q=>∃z,x=.str z/\z.length<=sizeLine/\Q (.str ⟨(a72 z.cps.toList lo hi).toArray⟩) H
theorem at3(lo hi:Option Int)(n:Nat):Builtin.Str.strSliceIndices lo hi 1 n=(List.range (HT.sIx n n hi-HT.sIx n 0 lo)).map λk=>HT.sIx n 0 lo+k:=by
 have e1:Builtin.Str.strSliceIndices lo hi 1 n=sliceRange ((HT.sIx n 0 lo:Nat):Int) ((HT.sIx n n hi:Nat):Int) 1:=by
  unfold Builtin.Str.strSliceIndices;dsimp only
  congr 1
  .cases lo with
   |none=>simp[HT.sIx]
   |some i=>simp only[HT.sIx,show(1:Int) > 0 by decide,dB];split<;>omega
  .cases hi with
   |none=>simp[HT.sIx]
   |some i=>simp only[HT.sIx,show(1:Int) > 0 by decide,dB];split<;>omega
 rw[e1];exact sliceRange_one _ _
theorem at4{α:Type}(xs:List α)(a:Nat):∀k,a+k<=xs.length->((List.range k).map λj=>a+j).filterMap (xs[·]?)=(xs.drop a).take k
 |0,_=>by simp
 |k+1,h=>by
  rw[List.range_succ,cC,eI,at4 xs a k (by omega)]
  have hk:a+k<xs.length:=by omega
  rw[List.take_succ]
  congr 1
  simp[List.getElem?_drop,hk]
theorem at5:SlR X aya:=by
 intro aA s σ H x v vl vu lo hi sl Q I rx hs pl pu h
 obtain⟨z,rfl,hz,q⟩:=h;obtain⟨t,rfl⟩:=rx;refine⟨"str",_,PyProof.Rows.slot_str_getitem.lookup,typeIs_str s z t,?_⟩;have hl:z.cps.toList.length=z.length:=by simp[Str.length]
 have fin:∀(l u:Option (Int×Tok)),vl=partValue l->vu=partValue u->l.map (·.1)=lo->u.map (·.1)=hi->wpAny (model X.prog X.w) X.A (getItem (.str z t) (.ref sl)) (EP X aA σ Q) X.xe s:=by
  intro l u e1 e2 e3 e4
  subst e1 e2;refine wpAny_getItem_str_slice (l:=l) (u:=u) (st:=none) hs rfl ?_;have hp:slicePicked z l u none=(List.range (HT.sIx z.length z.length hi-HT.sIx z.length 0 lo)).map λk=>HT.sIx z.length 0 lo+k:=by
   unfold slicePicked;rw[e3,e4];exact at3 lo hi z.length
  have hb1:HT.sIx z.length z.length hi<=z.length:=HT.afp _ _ (a8 _) _;have hb2:HT.sIx z.length 0 lo<=z.length:=HT.afp _ _ (bE _) _;unfold sliceMade
  split
  .rename_i c;simp only[af,eV]at c;obtain⟨_,c⟩:=c;rw[hp,aE,bL]at c;have e:(⟨(a72 z.cps.toList lo hi).toArray⟩:Str)=z:=by
    unfold a72;rw[hl];have z1:HT.sIx z.length 0 lo=0:=by omega
    have z2:HT.sIx z.length z.length hi=z.length:=by omega
    rw[z1,z2,gc,Nat.sub_zero,bB (by omega)]
   rw[e]at q;exact⟨.str z,H,I,⟨_,rfl⟩,q⟩
  .have e:(⟨(a72 z.cps.toList lo hi).toArray⟩:Str)=⟨((slicePicked z l u none).filterMap (z.cps[·]?)).toArray⟩:=by
    rw[hp];unfold a72;rw[hl]
    by_cases hc:HT.sIx z.length 0 lo<=HT.sIx z.length z.length hi
    .rw[<-at4 z.cps.toList _ _ (by omega)]
     simp only[Array.getElem?_toList]
    .rw[show HT.sIx z.length z.length hi-HT.sIx z.length 0 lo=0 by omega]
     simp
   rw[e]at q;refine⟨?_,.str _,H,I.tok _,⟨_,rfl⟩,q⟩;rw[<-e];show(a72 z.cps.toList lo hi).toArray.size<=sizeLine;rw[ax];unfold a72;rw[aR,aY,hl];omega
 cases pl with
 |none=>cases pu with
  |none=>exact fin none none rfl rfl rfl rfl
  |int j t'=>exact fin none (some (j,t')) rfl rfl rfl rfl
 |int i t'=>cases pu with
  |none=>exact fin (some (i,t')) none rfl rfl rfl rfl
  |int j t''=>exact fin (some (i,t')) (some (j,t'')) rfl rfl rfl rfl
theorem ab0:CallR X (.builtin "isinstance") (λxs H Q=>∃x T t b,xs=[x,.ty T]/\TyOf X.K H x t/\PySem.W.kitOne X.K t (.type T)=some b/\Q (.bl b) H):=by
 intro aA s σ H xs us Q I r h
 obtain⟨x,T,t,b,rfl,ty,e,q⟩:=h;obtain⟨u,w',rfl,rx,rt⟩:=vals2 r;cases rt
 exact afl I rx ty e λtk=>⟨.bl b,H,I.tok tk,rfl,q⟩
theorem a9m(bs:List Bool):((List.range bs.length).all λi=>(bs[i]?).getD true)=bs.all id:=by
 have e:(List.range bs.length).map (λi=>(bs[i]?).getD true)=bs:=by
  apply List.ext_getElem (by simp)
  intro i h1 h2
  simp[h2]
 have f:((List.range bs.length).map λi=>(bs[i]?).getD true).all id=bs.all id:=by rw[e]
 rw[<-f,dJ];rfl
theorem ab1(hc:X.calm=true):CallR X (.builtin "all") (λxs H Q=>∃(p:Addr) (bs:List Bool),xs=[.ref p]/\SqL X.K H p (bs.map V.bl)/\Q (.bl (bs.all id)) H):=by
 intro aA s σ H xs us Q I r h
 obtain⟨p,bs,rfl,hq,q⟩:=h;obtain⟨u,rfl,rx⟩:=vals1 r;cases rx
 obtain⟨its,r',pl,hz⟩:=I.list hq;have hl:=r'.length;rw[aE]at hl;have hlt:p<s.heap.objs.size:=by obtain⟨_,e,_⟩:=pl.isList;exact aS e
 refine call_all_walk (wpAny_pyIter_list pl.isList ?_);refine⟨s.heap.objs.size,[s.heap.objs.size,p],[s.heap.objs.size],its.toArray.size,_,_,λi=>(bs[i]?).getD true,rfl,Walks.list (A:=X.A.in1) (I.ok.hd hc) _ p (bY hlt) its.toArray,
  ⟨⟨_,bb _ rfl,rfl,rfl⟩,pl.isList.push _⟩,λi v s' Q' E' hP hQ=>?_,λh' tk hk=>?_⟩
 .have hP':its[i]? = some v:=by simpa using hP
  have hi:i<bs.length:=by
   have:=(ae.mp hP').1
   omega
  obtain⟨u,e,ru⟩:=r'.get (i:=i) (x:=.bl bs[i]) (by simp[hi])
  rw[hP']at e;cases e
  cases ru
  simp only[a6 hi,Option.getD_some]at hQ;exact bU hQ
 .have e:((List.range its.toArray.size).all λi=>(bs[i]?).getD true)=bs.all id:=by
   rw[ax,<-hl];exact a9m bs
  rw[e];exact⟨.bl _,H,I.kept λb x e=>hk b x (λhm=>by rw[aI.mp hm]at e;exact cG _ (aS e)) (aJ _ e),rfl,q⟩
noncomputable def a1d(x:Str):List V:=x.cps.toList.map λc=>V.str ⟨#[c]⟩
theorem a7h(h:ItemsOf (SignAt x) acc x.cps.size):Vals (a1d x) acc.toList:=by
 obtain⟨hs,ha⟩:=h;have key:∀(cs:List Nat) (us:List Value),us.length=cs.length->(∀(j:Nat) (v:Value),us[j]? = some v->∃c u,cs[j]? = some c/\v=.str ⟨#[c]⟩ u)->Vals (cs.map λc=>V.str ⟨#[c]⟩) us:=by
  intro cs
  induction cs with
  |nil=>intro us hl _;cases us with|nil=>exact .nil|cons _ _=>simp at hl
  |cons c cs ih =>
   intro us hl hp
   cases us with
   |nil=>simp at hl
   |cons u us =>
    refine .cons ?_ (ih us (by simpa using hl) λj v e=>hp (j+1) v (by simpa using e))
    obtain⟨c',t,e1,e2⟩:=hp 0 u rfl;simp at e1;subst e1;exact⟨t,e2⟩
 refine key _ _ (by simp[hs]) λj v e=>?_
 obtain⟨c,u,e1,e2⟩:=ha j v (by simpa using e)
 exact⟨c,u,by simpa using e1,e2⟩
theorem ab2(hc:X.calm=true):CallR X (.type "list") (λxs H Q=>∃z,xs=[.str z]/\z.length<=sizeLine/\∀l,H l=none->Q (.ref l) (upd H l (.lst (a1d z)))):=by
 intro aA s σ H xs us Q I r h
 obtain⟨z,rfl,hz,q⟩:=h;obtain⟨u,rfl,t,rfl⟩:=vals1 r;refine PySem.call_list_str (I.ok.hd hc) z t (λh' tk acc c kp e hi=>?_) (by simpa[Str.length] using hz)
 refine⟨.ref s.heap.objs.size,_,I.laid (t':=tk) kp (a8 _) (show ObjOk X.prog X.w _ h' _ (.lst (a1d z)) from ⟨by simpa[a1d,Str.length] using hz,acc.toList,c,a7h hi,by simpa using e⟩),rfl,q _ (I.hok.fresh (a8 _))⟩
theorem a9n(hc:X.calm=true):CallR X (.type "tuple") (λxs H Q=>∃z,xs=[.str z]/\z.length<=sizeLine/\∀l,H l=none->Q (.ref l) (upd H l (.tup (a1d z)))):=by
 intro aA s σ H xs us Q I r h
 obtain⟨z,rfl,hz,q⟩:=h;obtain⟨u,rfl,t,rfl⟩:=vals1 r;refine PySem.call_tuple_str (I.ok.hd hc) z t (λh' tk acc kp hi=>?_) (by simpa[Str.length] using hz)
 have I1:Inv X aA σ H {s with heap:=h',toks:=tk}:=I.kept kp
 have I2:Inv X aA σ (upd H h'.objs.size (.tup (a1d z))) {s with heap:=h'.push {cls:=.type "tuple",data:=.seq acc},toks:=tk} :=
  I1.laid (t':=tk) (λb o e=>aJ _ e) (a8 _) (show ObjOk X.prog X.w _ _ _ (.tup (a1d z)) from ⟨by simpa[a1d,Str.length] using hz,acc.toList,a7h hi,by simpa using TupD.new h' acc⟩)
 exact⟨.ref h'.objs.size,_,I2,rfl,q _ (I1.hok.fresh (a8 _))⟩
end
noncomputable def Its(x:Str):It:=⟨λi _=>i<x.cps.size,λi H v H'=>H'=H/\∃c,x.cps.toList[i]? = some c/\v=.str ⟨#[c]⟩,λi _=>i=x.cps.size⟩
theorem aco{P:Program}{w:World}{K:Fg}{tg:Expr}(it:Addr)(x:Str)(t:Tok)(ty:String)
  (hty:["enumerate","zip","dict_itemiterator","dict_reverseitemiterator","odict_iterator","itertools.zip_longest","itertools.pairwise"].contains ty=false)
  (W:∀A':Around,A'.handled=none->Walks P w A' it [it] [it] x.cps.size (SignAt x) (λi h=>h.IsStrIter it ty x t i))
  (slf:∀(A:Around) (i:Nat) (s:Shared) (Q:Value->Shared->Prop) (E:Value->Shared->Prop),s.heap.IsStrIter it ty x t i->Q (.ref it) s->wpAny (model P w) A (pyIter (.ref it)) Q E s) :
  Turn P w K tg (Its x) [it] it (λi h=>h.IsStrIter it ty x t i) where
 mem:=by simp
 obj:=λi h st b hb=>by
  have e:b=it:=by simpa using hb
  subst e;obtain⟨o,e,c,d⟩:=st;exact⟨o,e,λv z=>by rw[d]at z;cases z⟩
 keep:=λi h h' st k=>by
  obtain⟨o,e,c,d⟩:=st;exact⟨o,k it (by simp) o e,c,d⟩
 item:=by
  intro X hP hw hK hc i aA s σ H E I hf st hg
  subst hP hw hK;obtain⟨f0,f1,f2,f3,f4,f5⟩:=hf it (by simp)
  refine(W X.A (I.ok.hd hc)).item i s _ _ hg st λv h' tk hv st' kk=>?_;obtain⟨c,u,hx,rfl⟩:=hv;have I1:Inv X aA σ H {s with heap:=h',toks:=tk}:=I.turned (λb o hb e=>kk b o (by simpa using hb) e) f0 f1 f3 f4 f5
  obtain⟨o,e,oc,d⟩:=id st';exact⟨_,rfl,aj9 (s:={s with heap:=h',toks:=tk}) e oc d hty ⟨.str ⟨#[c]⟩,H,I1,⟨_,rfl⟩,⟨rfl,c,by simpa using hx,rfl⟩,st',λb hb=>(hf b hb).1⟩⟩
 done:=by
  intro X hP hw hK hc i aA s σ H E I hf st hg
  subst hP hw hK;obtain⟨f0,f1,f2,f3,f4,f5⟩:=hf it (by simp)
  have hg':i=x.cps.size:=hg;subst hg';exact(W X.A (I.ok.hd hc)).done s _ _ st λh' tk eb=>⟨rfl,I.turned (λb o hb e=>eb b o (by simpa using hb) e) f0 f1 f3 f4 f5⟩
 self:=slf
section
variable{X:Cx}{tg:Expr}
noncomputable def b14(tl:TE):TI:=λσ H R=>tl σ H λx H1=>∃z,x=.str z/\R (Its z) H1
theorem ami{l:Expr}{tl:TE}(hl:PE X l tl):PI X tg l (b14 tl):=by
 intro aA s σ H R I h
 refine thn (hl aA s σ H _ I h) ?_
 rintro v s1 ⟨x,H1,I1,r1,q1⟩
 obtain⟨z,e,q⟩:=q1;subst e;obtain⟨t,rfl⟩:=r1;have fp:∀b∈[s1.heap.objs.size],FpOk X aA H1 b:=λb hb=>by
  have e:b=s1.heap.objs.size:=by simpa using hb
  subst e;exact I1.fpOk (a8 _) (I1.hok.fresh (a8 _))
 cases ha:z.cps.all (· < 128)
 .exact wpAny_pyIter_wide ha ⟨s1.heap.objs.size,[s1.heap.objs.size],_,_,H1,rfl,I1.kept (t':=s1.toks) λb o e=>aJ _ e,
   aco _ z t "str_iterator" (by decide) (λA' hA=>Walks.strWide hA _ z t) (λ_ _ _ _ _ st h=>wpAny_pyIter_striter_wide st h),⟨_,bb _ rfl,rfl,rfl⟩,fp,q⟩
 .exact wpAny_pyIter_ascii ha ⟨s1.heap.objs.size,[s1.heap.objs.size],_,_,H1,rfl,I1.kept (t':=s1.toks) λb o e=>aJ _ e,
   aco _ z t "str_ascii_iterator" (by decide) (λA' hA=>Walks.strAscii hA _ z t) (λ_ _ _ _ _ st h=>wpAny_pyIter_striter_ascii st h),⟨_,bb _ rfl,rfl,rfl⟩,fp,q⟩
end
noncomputable def amj(tt:Option Str)(a:Addr)(cl:List (Str×Addr)):List (Str×Addr):=match tt with
 |none=>cl
 |some t=>(t,a)::cl
noncomputable def b03(tt:Option Str)(h:Heap):Heap:=match tt with
 |none=>h
 |some _=>h.push {cls:=.type "cell",data:=.cell none}
noncomputable def cxG(X:Cx)(N:List Str)(aB:Scope)(cl:List (Str×Addr))(tt:Option Str)(C:Addr)(fp:List Addr)(s:Shared)(H:Hp):Cx where
 prog:=X.prog
 w:=X.w
 K:=X.K
 mg:=X.mg
 base:=X.base
 A:=X.A
 N:=N
 s₀:=s
 H₀:=H
 env:=compEnvC aB (amj tt (C+1) cl) C X.env
 outer:=X.stack
 stack:=X.stack
 ex:=fp
 fn:=λx=>tt == some x
 calm:=X.calm
 pn:=[]
 xe:=λ_ _=>False
abbrev cxC(X:Cx)(N:List Str)(aB:Scope)(cl:List (Str×Addr))(C:Addr)(fp:List Addr)(s:Shared)(H:Hp):Cx:=cxG X N aB cl none C fp s H
structure CSg (X:Cx) (aB:Scope) (cl:List (Str×Addr)) (tt:Option Str) (ts fr:List Str) (ix:List Nat):Prop where
 clos:closureFor aB X.env=pure cl
 kind:aB.kind=.function
 own:∀a,cellsFrom a aB.names cl=amj tt a cl
 push:∀h,pushCells h aB.names=b03 tt h
 names:∀y∈aB.names,y.2=.local->aB.names.lookup y.1=some .local
 sub:∀y c,cl.lookup y=some c->X.env.cells.lookup y=some c
 has:∀y,((relabel aB X.env).names.lookup y=some .cell\/(relabel aB X.env).names.lookup y=some .free)->tt=some y\/∃c,cl.lookup y=some c
 len:ix.length=fr.length
 vis:∀(j:Nat) (y:Str),fr[j]? = some y->tt≠some y/\∃i:Nat,ix[j]? = some i/\X.N[i]? = some y/\(X.env.kindOf y=some .cell\/X.env.kindOf y=some .free)/\((relabel aB X.env).names.lookup y=some .cell\/(relabel aB X.env).names.lookup y=some .free)
abbrev CSc(X:Cx)(aB:Scope)(cl:List (Str×Addr))(ts fr:List Str)(ix:List Nat):Prop:=CSg X aB cl none ts fr ix
theorem a88:∀{names:List (Str×NameKind)} {a:Nat} {cl:List (Str×Addr)},(∀y∈names,y.2≠.cell)->cellsFrom a names cl=cl
 |[],_,_,_=>rfl
 |(x,k)::r,a,cl,h=>by
  unfold cellsFrom;rw[aL (by have:=h _ aX;simpa using this)]
  exact a88 λy hy=>h y (aP _ hy)
theorem ab3:∀{names:List (Str×NameKind)} {h:Heap},(∀y∈names,y.2≠.cell)->pushCells h names=h
 |[],_,_=>rfl
 |(x,k)::r,a,h=>by
  unfold pushCells;rw[aL (by have:=h _ aX;simpa using this)]
  exact ab3 λy hy=>h y (aP _ hy)
theorem look{tt:Option Str}{cl:List (Str×Addr)}(e:(amj tt a cl).lookup y=some c):(tt=some y/\c=a)\/(tt≠some y/\cl.lookup y=some c):=by
 cases tt with
 |none=>exact .inr ⟨nofun,e⟩
 |some t =>
  have e:((t,a)::cl).lookup y=some c:=e;rw[fS]at e
  cases hb:y == t with
  |true=>rw[hb]at e;cases e;exact .inl ⟨ah some (eV.mp hb).symm,rfl⟩
  |false=>rw[hb]at e;exact .inr ⟨λz=>by cases z;simp at hb,e⟩
theorem afx{tt:Option Str}{cl:List (Str×Addr)}(ne:tt≠some y)(e:cl.lookup y=some c):(amj tt a cl).lookup y=some c:=by
 cases tt with
 |none=>exact e
 |some t =>
  show((t,a)::cl).lookup y=some c;rw[fS];have hb:(y == t)=false:=by rw[bN];exact λz=>ne (ah some z.symm)
  rw[hb];exact e
theorem at6{t:Str}{a:Addr}{cl:List (Str×Addr)}:(amj (some t) a cl).lookup t=some a:=by
 show((t,a)::cl).lookup t=_;rw[fS];simp
theorem no1(h:C+1<n)(h':n<=C):False:=by omega
theorem no2(h:b<n)(h':n<=C):C+1≠b:=by omega
theorem no3(h:C+1=n)(h':n<=C):False:=by omega
theorem afy{M:Model}{A:Around}{E:Value->Shared->Prop}{s:Shared}{aB:Scope}{globals:Addr}{cl:List (Str×Addr)}{tt:Option Str}{qual:Str}{func:Option Addr}{code:Value}{outer:Env}{builtins:Addr}{Q:Env->Shared->Prop}
  (own:∀a,cellsFrom a aB.names cl=amj tt a cl) (push:∀h,pushCells h aB.names=b03 tt h) (hk:aB.kind=.function)
  (hQ:∀h':Heap,h'.Ns s.heap.objs.size (λ_=>none)->(∀t,tt=some t->h'.IsCell (s.heap.objs.size+1) none)->(∀b o,s.heap.get? b=some o->h'.get? b=some o)->Q (newEnv aB s.heap.objs.size globals (amj tt (s.heap.objs.size+1) cl) qual func code (some outer) builtins) {s with heap:=h' }) :
  wpAny M A (newFunctionEnv aB globals cl [] qual func code (some outer) builtins) Q E s:=by
 simp only[newFunctionEnv,Option.isSome_some,dB];refine ag (wpAny_alloc ?_);refine ag (wpAny_layCells _ (λname kind cells=>by cases hkc:kind == NameKind.cell<;>simp[hkc]) _ _ _ _ ?_)
 rw[own,push];simp only[List.forIn_nil];refine ag (aN (aN ?_));have sz:({s with heap:=s.heap.push {cls:=.type "dict",data:=.dict #[]} }:Shared).heap.objs.size=s.heap.objs.size+1:=eE ..
 rw[sz]
 cases tt with
 |none=>exact hQ _ (Heap.Ns.new s.heap (.type "dict")) (λ_ z=>nomatch z) λb o e=>aJ _ e
 |some t =>
  refine hQ _ ((Heap.Ns.new s.heap (.type "dict")).keeps λb o e=>aJ _ e) (λ_ _=>⟨{cls:=.type "cell",data:=.cell none},?_,rfl⟩) λb o e=>aJ _ (aJ _ e);rw[<-sz];exact bb _ rfl
def Ext(a b:St):Prop:=b.length=a.length/\∀(i:Nat) v,a[i]? = some (some v)->b[i]? = some (some v)
noncomputable def yc(nt:Nat)(ix:List Nat)(σ:St):St:=List.replicate nt none++ix.map λi=>(σ[i]?).join
def aou(J:It)(s0:St)(g:TG)(te:TE)(Q:VK)(H1:Hp):Prop:=∃W:Nat->Nat->List V->Hp->Prop,(∃m,W 0 m [] H1)/\∀i m ys H,W i m ys H->
 (J.stop i H/\∀p,H p=none->Q (.ref p) (upd H p (.lst ys))) \/
 (J.go i H/\ys.length<sizeLine/\∀x H',J.yld i H x H'->g x s0 H' λσ2 H2=>Ext s0 σ2/\te σ2 H2 λy H3=>∃m',m'<m/\W (i+1) m' (ys++[y]) H3)
noncomputable def afz(wi:TI)(s0:St->St)(g:TG)(te:TE):TE:=λσ H Q=>wi σ H λJ H1=>aou J (s0 σ) g te Q H1
def ab4(J:It)(s0:St)(g:TG)(tc:TT)(te:TE)(Q:VK)(H1:Hp):Prop:=∃W:Nat->Nat->List V->Hp->Prop,(∃m,W 0 m [] H1)/\∀i m ys H,W i m ys H->
 (J.stop i H/\∀p,H p=none->Q (.ref p) (upd H p (.lst ys))) \/
 (J.go i H/\ys.length<sizeLine/\∀x H',J.yld i H x H'->g x s0 H' λσ2 H2=>Ext s0 σ2/\tc σ2 H2 λok H2'=>if ok=true then te σ2 H2' (λy H3=>∃m',m'<m/\W (i+1) m' (ys++[y]) H3) else ∃m',m'<m/\W (i+1) m' ys H2')
noncomputable def a4i(wi:TI)(s0:St->St)(g:TG)(tc:TT)(te:TE):TE:=λσ H Q=>wi σ H λJ H1=>ab4 J (s0 σ) g tc te Q H1
theorem a66(aD target aF cnd:Expr)(aB:Scope)(pos:Pos)(it acc:Value)(env:Env) :
  compTurn (.ListComp aD [⟨target,aF,[cnd],0⟩] aB pos) 0 it acc env=(standAt aF.pos>>=λ_=>pyNext it>>=λr=>match r with
   |none=>pure (.done .next)
   |some v=>letOwnedTupleGo target it v>>=λ_=>assign target env v>>=λ_=>isTrue cnd env (eval cnd env)>>=λok =>
    (if ok=true then (eval aD env>>=λx=>call (.builtin "list.append") [acc,x]>>=λ_=>pure ()) else pure ())>>=λ_ =>
     again (.compLoop (.ListComp aD [⟨target,aF,[cnd],0⟩] aB pos) 0 it acc env)):=by
 first
  |rfl
  |(unfold compTurn;simp only[e9];rfl)
  | (show(standAt aF.pos>>=λ_=>pyNext it>>=λr=>_)=_
     congr 1;funext _;congr 1;funext r
     cases r with
     |none=>rfl
     |some v =>
      show(letOwnedTupleGo target it v>>=λ_=>assign target env v>>=λ_=>_)=(letOwnedTupleGo target it v>>=λ_=>assign target env v>>=λ_=>_)
      congr 1;funext _;congr 1;funext _
      simp
      congr 1;funext ok
      cases ok with
      |false=>rw[aL aT,aL aT,pure_bind]
      |true =>
       rw[ai rfl,ai rfl,bind_assoc]
       congr 1;funext x
       rw[map_eq_pure_bind,bind_assoc]
       congr 1)
noncomputable def runC(cnd:Option Expr)(env:Env):Sem Bool:=match cnd with
 |none=>pure true
 |some c=>isTrue c env (eval c env)
def PTO(X:Cx)(cnd:Option Expr)(t:TT):Prop :=
 ∀(aA:List (Addr×Obj)) (s:Shared) (σ:St) (H:Hp) (Q:Bool->Hp->Prop),Inv X aA σ H s->t σ H Q->wpAny (model X.prog X.w) X.A (runC cnd X.env) (TP X aA σ Q) X.xe s
theorem a73(aD target aF:Expr)(cnd:Option Expr)(aB:Scope)(pos:Pos)(it acc:Value)(env:Env) :
  compTurn (.ListComp aD [⟨target,aF,cnd.toList,0⟩] aB pos) 0 it acc env=(standAt aF.pos>>=λ_=>pyNext it>>=λr=>match r with
   |none=>pure (.done .next)
   |some v=>letOwnedTupleGo target it v>>=λ_=>assign target env v>>=λ_=>runC cnd env>>=λok =>
    (if ok=true then (eval aD env>>=λx=>call (.builtin "list.append") [acc,x]>>=λ_=>pure ()) else pure ())>>=λ_ =>
     again (.compLoop (.ListComp aD [⟨target,aF,cnd.toList,0⟩] aB pos) 0 it acc env)):=by
 cases cnd with
 |some c=>exact a66 ..
 |none =>
  rw[show(none:Option Expr).toList=[] from rfl,compTurn_list1]
  congr 1
theorem ag0{cnd:Option Expr}{E:Value->Shared->Prop}(no:∀v s,E v s->False)(J:Nat->Shared->Prop)
  (step:∀m z,J m z->wpAny (model prog w) A (pyNext it) (λgot z1=>match got with
   |none=>R (.ok .next) z1
   |some v=>wpAny (model prog w) A (letOwnedTupleGo target it v) (λ_ z2=>wpAny (model prog w) A (assign target env v) (λ_ z3=>wpAny (model prog w) A (runC cnd env) (λok z3'=>if ok=true then wpAny (model prog w) A (eval aD env) (λx z4 =>
     wpAny (model prog w) A (call (.builtin "list.append") [acc,x]) (λ_ z5=>∃m',m'<m/\J m' z5) E z4)
     E z3' else ∃m',m'<m/\J m' z3') E z3) E z2) E z1) E z)
  (m:Nat) (j0:J m s):codeAny (model prog w) A (.compLoop (.ListComp aD [⟨target,aF,cnd.toList,0⟩] aB pos) 0 it acc env) R s:=by
 refine codeAny_loop rfl J (λm z hj=>(wpAny_noted ?_:wpAny _ _ ((compTurn (.ListComp aD [⟨target,aF,cnd.toList,0⟩] aB pos) 0 it acc env).onRaise _) _ _ z)) m j0;rw[a73];refine ag (de (ag (bO (step m z hj) (λgot z1 h1=>?_) λ_ _ e=>(no _ _ e).elim)))
 match got,h1 with
 |none,h1=>exact aN h1
 |some v,h1 =>
  refine ag (bO h1 (λ_ z2 h2=>ag (bO h2 (λ_ z3 h3=>ag (bO h3 (λok z3' h3'=>?_) λ_ _ e=>(no _ _ e).elim)) λ_ _ e=>(no _ _ e).elim)) λ_ _ e=>(no _ _ e).elim)
  match ok,h3' with
  |true,h3' =>
   rw[ai rfl]at h3';refine ag (ag (bO h3' (λx z4 h4=>?_) λ_ _ e=>(no _ _ e).elim));exact ag (bO h4 (λ_ z5 h5=>aN (aN ⟨rfl,h5⟩)) λ_ _ e=>(no _ _ e).elim)
  |false,h3' =>
   rw[aL aT]at h3';exact ag (aN (aN ⟨rfl,h3'⟩))
section
variable{X:Cx}
theorem a9o{aA:List (Addr×Obj)}{σ:St}{H:Hp}{s:Shared}{aB:Scope}{cl:List (Str×Addr)}{tt:Option Str}{ts fr:List Str}{ix:List Nat}{C:Addr}{fp:List Addr}(S:CSg X aB cl tt ts fr ix)(I:Inv X aA σ H s)
  (hf:∀b∈fp,FpOk X aA H b) (hb:∀b∈fp,b<s.heap.objs.size) (hC:s.heap.objs.size<=C):(cxG X (ts++fr) aB cl tt C fp s H).Ok where
 mod:=I.ok.mod
 kind:=S.kind
 glob:=I.ok.glob
 blt:=I.ok.blt
 above:=hC
 inj:=λx y c h1 h2=>by
  have small:∀z c,cl.lookup z=some c->c<s.heap.objs.size:=λz c e=>let ⟨_,q⟩:=I.cell z c (S.sub z c e);q.lt
  rcases look h1 with⟨e1,rfl⟩|⟨_,e1⟩<;>rcases look h2 with⟨e2,e3⟩|⟨_,e2⟩
  .exact bK (e1.symm.trans e2)
  .exact(no1 (small y _ e2) hC).elim
  .rw[e3]at e1;exact(no1 (small x _ e1) hC).elim
  .exact I.ok.inj x y c (S.sub x c e1) (S.sub y c e2)
 has:=λy z=>by
  by_cases h:tt=some y
  .subst h;exact⟨_,at6⟩
  .exact(S.has y z).elim (λz=>absurd z h) λ⟨c,e⟩=>⟨c,afx h e⟩
 cab:=λx c h e=>by
  rcases look e with⟨_,rfl⟩|⟨ne,_⟩
  .show s.heap.objs.size<=C+1;omega
  .exact absurd (eV.mp h) ne
 hd:=I.ok.hd
 frames:=I.ok.frames
 stk:=.inl rfl
 exf:=λb hb'=>⟨bY (aW (hb b hb') hC),λx c e=>by
  rcases look e with⟨_,rfl⟩|⟨_,e⟩
  .exact no2 (hb b hb') hC
  .exact(hf b hb').2.2.2.2.1 x c (S.sub x c e)⟩
 bs:=λb o e=>I.bs b o e
 bsz:=bH I.ok.bsz I.sz
 noex:=λb o e hb'=>by
  rcases(hf b hb').2.2.2.1 with z|z
  .exact I.ok.noex b o e z
  .exact absurd (aW (aS e) (bH I.ok.bsz z)) (cG _)
 exfs:=λb hb' z=>by
  rcases aV.mp (I.stkSub b z) with e|e
  .exact(hf b hb').2.1 e
  .exact(hf b hb').2.2.1 e
 funs:=I.stack
 frf:=λb hb'=>I.stkFree b hb'
theorem aef:(yc nt ix σ).length=nt+ix.length:=by
 unfold yc;rw[a9,dG,aE]
theorem ag1{s s4:Shared}{ts:List Str}(S:CSg X aB cl tt ts fr ix)(I:Inv X aA σ H s)
  (hf:∀b∈fp,FpOk X aA H b) (hb:∀b∈fp,b<s.heap.objs.size) (hC:s.heap.objs.size<=C)
  (k:∀b o,s.heap.get? b=some o->s4.heap.get? b=some o) (hn:s4.heap.Ns C m) (hcl:∀t,tt=some t->s4.heap.IsCell (C+1) none) (ho:s4.os=s.os) (hg:s4.gens=s.gens) :
  Inv (cxG X (ts++fr) aB cl tt C fp s H) [] (yc ts.length ix σ) H s4 where
 ok:=a9o S I hf hb hC
 os:=ho
 bare:=by rw[hg];exact I.bare
 base:=Un.kept k
 loc:=by
  refine⟨m,hn,λi x v e1 e2 e3=>?_⟩;have e1:(ts++fr)[i]? = some x:=e1
  by_cases hi:i<ts.length
  .unfold yc at e2;rw[aU (by simpa using hi),dA,ai hi]at e2
   cases e2
  .rw[aK (by omega)]at e1
   unfold yc at e2;rw[aK (by simpa using hi),dG,bV]at e2
   obtain⟨nt,j,h1,h2,h3,h4⟩:=S.vis _ x e1;rw[h1]at e2;have e2':(σ[j]?).join=some v:=bK e2;have e5:σ[j]? = some (some v):=by
    cases q:σ[j]? with
    |none=>rw[q]at e2';cases e2'
    |some o=>rw[q]at e2';simp at e2';rw[e2']
   obtain⟨m0,_,hl⟩:=I.loc;have vis:Vis X.env.scope x:=h3.elim (λz=>.inr (.inl z)) λz=>.inr (.inr z);obtain⟨u,ru,l⟩:=hl j x v h2 e5 vis;refine⟨u,ru,?_⟩
   rcases l with⟨z,_⟩|⟨_,c,hc,hcell⟩
   .rcases h3 with h3|h3<;>rw[h3]at z<;>cases z
   .rcases S.has x h4 with z|⟨c',hc'⟩
    .exact absurd z nt
    .have e6:c'=c:=bK ((S.sub x c' hc').symm.trans hc);subst e6;obtain⟨o,ho,hd⟩:=hcell;exact .inr ⟨h4,c',afx nt hc',o,k _ _ ho,hd⟩
 cell:=λx c e=>by
  rcases look e with⟨z,rfl⟩|⟨_,e⟩
  .exact⟨_,hcl _ z⟩
  .obtain⟨v,o,ho,hd⟩:=I.cell x c (S.sub x c e);exact⟨v,o,k _ _ ho,hd⟩
 free:=I.hok.fresh hC
 freeC:=λx c e=>by
  rcases look e with⟨_,rfl⟩|⟨_,e⟩
  .exact I.hok.fresh (by omega)
  .exact I.freeC x c (S.sub x c e)
 pin:=λp hp=>absurd (show p∈([]:List (Addr×Obj)) from hp) (by simp)
 hok:=I.hok.kept k
 len:=by
  rw[aef];show _=(ts++fr).length;rw[a9,S.len]
theorem Inv.unpinned'(I:Inv X aA σ H s):Inv X [] σ H s:=I.pins_of λ_ hp=>nomatch hp
theorem a7i{Y:Cx}(I:Inv X aA σ H s)
  (hf:∀b∈fp,FpOk X aA H b) (hC:s.heap.objs.size<=C) (hacc:s.heap.objs.size<=acc)
  (q:Y.prog=X.prog/\Y.w=X.w/\Y.fs=frs X.stack/\Y.ex=fp/\Y.env.locals=C/\Y.s₀=s/\Y.H₀=H) (J:Inv Y [] σ' H' s') (hn:H' acc=none) (hob:ObjOk X.prog X.w (upd H' acc ho) h' acc ho) (sb:Heap.SameBut C s'.heap h') :
  Inv X aA σ (upd H' acc ho) {s' with heap:=h' }:=by
 have k:∀b o,b≠C->s'.heap.get? b=some o->h'.get? b=some o:=λb o hb e=>sb.extBut b o hb e;have old:∀b o,s.heap.get? b=some o->b≠C/\b≠acc:=λb o e=>⟨bY (aW (aS e) hC),bY (aW (aS e) hacc)⟩;obtain⟨q1,q2,q3,q4,q5,q6,q7⟩:=q;have u0:=J.base;rw[q3,q4,q6,q7]at u0;have fC:=J.free;rw[q5]at fC;have jh:=J.hok;rw[q1,q2]at jh;have u:Un (frs X.stack) fp H (upd H' acc ho) s.heap h':=by
  refine⟨λb o e n' hb hx=>k b o (old b o e).1 (u0.keep b o e n' hb hx),λb o e n' hb hx=>?_,λb o e n' hx=>?_,λb o e hx=>?_,λb xs e=>?_,λb o v e=>?_,λb ps e=>?_⟩
  .obtain⟨sl,e1⟩:=u0.slot b o e n' hb hx;exact⟨sl,k b _ (old b o e).1 e1⟩
  .rw[jk (old b o e).2];exact u0.free b o e n' hx
  .obtain⟨o',e1⟩:=u0.there b o e hx;exact⟨o',k b _ (old b o e).1 e1⟩
  .rw[jk (jb (u0.tups b xs e) hn)];exact u0.tups b xs e
  .rw[jk (jb (u0.frzs b o v e) hn)];exact u0.frzs b o v e
  .obtain⟨more,e1⟩:=u0.tbls b ps e;exact⟨more,by rw[jk (jb e1 hn)];exact e1⟩
 have hok:HOk X.prog X.w (upd H' acc ho) h':=λb o e=>by
  by_cases hb:b=acc
  .subst hb;rw[oh]at e;cases e
   exact hob
  .rw[jk hb]at e;refine(jh b o e).stay (λc v hc q=>k c v ?_ q) (λc q=>by rw[jk (jb q hn)];exact q) λc xs q=>by rw[jk (jb q hn)];exact q
   rcases hc with z|z
   .rw[z];exact jb e fC
   .exact jb z fC
 have J':=I.call (g':=s'.gens) (t':=s'.toks) (d':=s'.drawn) (ch:=fp) u hok J.bare λb hb=>⟨(hf b hb).2.2.2.1,(hf b hb).2.1,(hf b hb).2.2.2.2.1,(hf b hb).2.2.2.2.2⟩;have eo:=J.os;rw[q6]at eo;obtain⟨hp,g,d,t,o⟩:=s';have eo':o=s.os:=eo;subst eo';exact J'
theorem at7{Y:Cx}(ok:Y.Ok)(hp:Y.pn=[])(hn:H' b=none)(hb:b∈Y.ex):FpOk Y [] H' b :=
 ⟨hn,(ok.exf b hb).1,ok.exfs b hb,.inl hb,(ok.exf b hb).2,λp h=>by rw[hp]at h;exact absurd h (by simp)⟩
theorem amk{Y:Cx}(ok:Y.Ok)(hp:Y.pn=[])(hn:H' b=none)(hb:b=Y.s₀.heap.objs.size)(hl:b≠Y.env.locals)(hc:∀x c,Y.env.cells.lookup x=some c->c≠b):FpOk Y [] H' b :=
 ⟨hn,hl,λz=>by
  obtain⟨_,o,ho,_⟩:=ok.funs.mem z;exact cG _ (aW (aS ho) (Nat.le_of_eq hb.symm)),.inr (Nat.le_of_eq hb.symm),hc,λp h=>by rw[hp]at h;exact absurd h (by simp)⟩
theorem ag2(I:Inv X aA σ H s)(e:X.env.cells.lookup x=some c):c≠s.heap.objs.size:=λz=>by
 obtain⟨v,o,ho,_⟩:=I.cell x c e;rw[z]at ho;exact cG _ (aS ho)
def a67(X:Cx)(aA:List (Addr×Obj))(σ:St)(use:Option (Value->Sem Unit))(Q:VK)(Qf:Value->Shared->Prop):Prop :=
 ∀(acc C:Addr) (s6:Shared) (H6:Hp) (m6:Str->Option Value),s6.heap.Ns C m6->FpOk X aA H6 C->(∀h',Heap.SameBut C s6.heap h'->Inv X aA σ H6 {s6 with heap:=h' })->Q (.ref acc) H6->
  compPost (model X.prog X.w) X.A X.xe use Qf (.ref acc) C (.ok .next) s6
theorem a89:a67 X aA σ none Q (EP X aA σ Q):=λacc C s6 H6 m6 hn _ k q=>⟨m6,hn,λh' sb=>⟨.ref acc,H6,k h' sb,rfl,q⟩⟩
theorem acp{D:Ends}(hN:X.N.Nodup)(hi:X.N[i]? = some x)(hx:Loc X.env.scope x)(hf:X.fn x=true\/X.env.scope.names.lookup x=some .local) :
  a67 X aA σ (some (assign (.Name x pos') X.env)) (λv H1=>a71 i v σ H1 D.nx) (λ_ s'=>SP X aA D .next s'):=by
 intro acc C s6 H6 m6 hn fp k q
 obtain⟨f1,f2,f3,f4,f5,f6⟩:=fp;have I6:Inv X aA σ H6 s6:=k s6.heap (Heap.SameBut.refl _ _);refine wpAny_assign_Name (a96 (v:=.ref acc) I6 hN hi hx rfl (λs' I' ⟨a,sb,ha⟩=>⟨m6,hn.sameBut sb ?_,λh' sb'=>⟨_,H6,I'.turned (t':=s'.toks) (it:=C) (λb o hb e=>sb'.extBut b o hb e) f1 f2 f4 f5 f6,q⟩⟩) hf)
 rcases ha with ha|ha
 .rw[ha];exact f2
 .exact λz=>f5 x a ha z.symm
theorem ag3{Y:Cx}{cnd:Option Expr}{N it:Addr}{fp:List Addr}{tn:Nat->Heap->Prop}{J:It}{σ0:St}{H2:Hp}{s4:Shared}{W:Nat->Nat->List V->Hp->Prop}{Q:VK}(hc:Y.calm=true)(no:∀v s,Y.xe v s->False)(hp0:Y.pn=[])(T:Turn Y.prog Y.w Y.K tg J fp it tn)
  (stat:∀{H':Hp},(∀b∈fp,H' b=none)->∀b∈fp,FpOk Y [] H' b) (statA:∀{H':Hp},H' N=none->FpOk Y [] H' N) (accF:N∉fp) (hg:PG Y tg g) (he:PE Y aD te) (ht:PTO Y cnd tc)
  (turn:∀i m ys H,W i m ys H->(J.stop i H/\∀p,H p=none->Q (.ref p) (upd H p (.lst ys)))\/(J.go i H/\ys.length<sizeLine/\∀x H',J.yld i H x H'->g x σ0 H' λσ2 H2=>Ext σ0 σ2/\tc σ2 H2 λok H2'=>if ok=true then te σ2 H2' (λy H3=>∃m',m'<m/\W (i+1) m' (ys++[y]) H3) else ∃m',m'<m/\W (i+1) m' ys H2'))
  (w0:W 0 m0 [] H2) (K0:Inv Y [] σ0 H2 s4) (st4:tn 0 s4.heap) (f0:∀b∈fp,H2 b=none) (fa:H2 N=none) (hacc:s4.heap.get? N=some {cls:=.type "list",data:=.seq ([]:List Value).toArray 0})
  (fin:∀s6 H6 ys its k,Inv Y [(N,{cls:=.type "list",data:=.seq its.toArray k})] σ0 H6 s6->H6 N=none->Vals ys its->ys.length<=sizeLine->(∀p,H6 p=none->Q (.ref p) (upd H6 p (.lst ys)))->R (.ok .next) s6) :
  codeAny (model Y.prog Y.w) Y.A (.compLoop (.ListComp aD [⟨tg,aF,cnd.toList,0⟩] aB pos) 0 (.ref it) (.ref N) Y.env) R s4:=by
 refine ag0 no (λn s'=>∃i σ' H' ys its k,Inv Y [] σ' H' s'/\Ext σ0 σ'/\tn i s'.heap/\(∀b∈fp,H' b=none)/\H' N=none /\
  s'.heap.get? N=some {cls:=.type "list",data:=.seq its.toArray k}/\Vals ys its/\ys.length<=sizeLine/\W i n ys H') ?_ m0
  ⟨0,_,H2,[],[],0,K0,⟨rfl,λ_ _ z=>z⟩,st4,f0,fa,hacc,.nil,bE _,w0⟩
 rintro n s5 ⟨i,σ5,H5,ys,its,k5,I5,x5,st5,fr5,fa5,ac5,rv5,hz5,w5⟩
 have I5':Inv Y [] σ0 H5 s5:=I5.weak x5.1.symm x5.2;obtain⟨ob,hob⟩:∃ob:Obj,ob={cls:=.type "list",data:=.seq its.toArray k5}:=⟨_,rfl⟩;rw[<-hob]at ac5;have IP:Inv Y [(N,ob)] σ0 H5 s5:=I5'.pins_of λp hp=>by
  rw[aI.mp hp];obtain⟨a0,a1,a2,_⟩:=statA fa5;exact⟨ac5,a0,a1,a2,λv z=>by rw[hob]at z;cases z⟩
 have FB:∀b∈fp,FpOk Y [(N,ob)] H5 b:=λb hb=>by
  obtain⟨b0,b1,b2,b3,b4,b5⟩:=stat fr5 b hb;refine⟨b0,b1,b2,b3,b4,λp hp=>?_⟩;rw[hp0]at hp;rw[aI.mp hp];exact λz=>accF (by have z':N=b:=z;rw[z'];exact hb)
 rcases turn i n ys H5 w5 with⟨stop,qn⟩|⟨go,hlt,step⟩
 .refine thn (T.done Y rfl rfl rfl hc i [(N,ob)] s5 _ H5 _ IP FB st5 stop) ?_
  rintro r s6 ⟨hr,I6⟩
  subst hr;rw[hob]at I6;exact fin s6 H5 ys its k5 I6 fa5 rv5 hz5 qn
 .refine thn (T.item Y rfl rfl rfl hc i [(N,ob)] s5 _ H5 _ IP FB st5 go) ?_
  rintro r s6 ⟨u,hr,h6⟩
  subst hr;refine thn h6 ?_
  rintro _ s7 ⟨x,H7,I7,r7,y7,st7,fr7⟩
  obtain⟨ac7,fa7,_⟩:=I7.pin (N,ob) (by simp)
  have I7':Inv Y (a0i (N::fp) s7.heap) σ0 H7 s7:=by
   show Inv Y ([]++a0i (N::fp) s7.heap) _ _ _;refine Inv.pinned I7.unpinned' (λb hb=>?_) λb hb=>?_
   .rcases aV.mp hb with e|e
    .subst e;exact statA fa7
    .exact stat fr7 b e
   .rcases aV.mp hb with e|e
    .subst e;exact⟨_,ac7,λv z=>by rw[hob]at z;cases z⟩
    .exact T.obj _ _ st7 b e
  have keep:∀{σ':St} {H9:Hp} {s9:Shared} {ps:List (Addr×Obj)},Inv Y (a0i (N::fp) s7.heap) σ' H9 s9->(s9.heap.get? N=some ob/\H9 N=none)/\∀b∈fp,(∀o,s7.heap.get? b=some o->s9.heap.get? b=some o)/\H9 b=none:=λI9=>by
   refine⟨?_,λb hb=>?_⟩
   .obtain⟨z1,z2,_⟩:=I9.pin (N,ob) (br _ (zg aX ac7));exact⟨z1,z2⟩
   .obtain⟨o,e,_⟩:=T.obj _ _ st7 b hb;obtain⟨z1,z2,_⟩:=I9.pin (b,o) (br _ (zg (aP _ hb) e));exact⟨λo' e'=>by rw[e]at e';cases e';exact z1,z2⟩
  refine thn (hg _ s7 _ H7 x u _ I7' r7 (step x H7 y7)) ?_
  rintro _ s8 ⟨σ8,H8,I8,x8,q8⟩
  refine thn (ht _ s8 _ H8 _ I8 q8) ?_
  rintro ok s8' ⟨H8',I8',q8'⟩
  cases ok with
  |false =>
   rw[aL aT]at q8' ⊢;obtain⟨m',hm',w9⟩:=q8';obtain⟨⟨ac9,fa9⟩,k9⟩:=keep (ps:=[]) I8';exact⟨m',hm',i+1,σ8,H8',ys,its,k5,I8'.unpinned',x8,T.keep _ _ _ st7 λb hb o e=>(k9 b hb).1 o e,λb hb=>(k9 b hb).2,fa9,by rw[ac9,hob],rv5,hz5,w9⟩
  |true =>
   rw[ai rfl]at q8' ⊢;refine thn (he _ s8' _ H8' _ I8' q8') ?_
   rintro yv s9 ⟨y,H9,I9,r9,m',hm',w9⟩
   obtain⟨⟨ac9,fa9⟩,k9⟩:=keep (ps:=[]) I9;rw[hob]at ac9;have hl:=rv5.length;refine e7 F.slot_list_append ⟨_,ac9,rfl⟩ F.entry_list_append (F.args_list_append_2 _ _) (PySem.list_append N its.toArray k5 yv (by rw[ax];omega)) ⟨ac9,?_⟩
   have q:=PySem.IsL.update ac9 (λa=>a.push yv);have qo:∀b o,b≠N->s9.heap.get? b=some o->(s9.heap.update N (Obj.mapSeq (λa=>a.push yv))).get? b=some o:=λb o hb e=>(eC s9.heap _ (dW hb)).trans e;have q':∃k,(s9.heap.update N (Obj.mapSeq (λa=>a.push yv))).get? N=some {cls:=.type "list",data:=.seq (its++[yv]).toArray k}:=⟨_,by rw[q];simp;rfl⟩
   obtain⟨k9',q9⟩:=q';obtain⟨a0,a1,a2,a3,a4,a5⟩:=statA fa9;refine⟨m',hm',i+1,σ8,H9,ys++[y],its++[yv],k9',(I9.unpinned').turned qo a0 a1 a3 a4 a5,x8,T.keep _ _ _ st7 λb hb o e=>qo b o (λz=>accF (z ▸ hb)) ((k9 b hb).1 o e),λb hb=>(k9 b hb).2,fa9,q9,rv5.append (.cons r9 .nil),?_,w9⟩;rw[a9,ay];omega
theorem a7j{aD tg aF:Expr}{cnd:Option Expr}{aB:Scope}{pos ppos:Pos}{cl:List (Str×Addr)}{tt:Option Str}{ts fr:List Str}{ix:List Nat}{wi:TI}{g:TG}{tc:TT}{te:TE}(hc:X.calm=true)(S:CSg X aB cl tt ts fr ix)(hi:PI X tg aF wi)
  (hg:∀C fp s H,PG (cxG X (ts++fr) aB cl tt C fp s H) tg g) (he:∀C fp s H,PE (cxG X (ts++fr) aB cl tt C fp s H) aD te) (ht:∀C fp s H,PTO (cxG X (ts++fr) aB cl tt C fp s H) cnd tc) (hs:∀x,foldedSetIterable aF X.env x=pure x)
  (use:Option (Value->Sem Unit)) {aA:List (Addr×Obj)} {s:Shared} {σ:St} {H:Hp} {Q:VK} {Qf:Value->Shared->Prop} (I:Inv X aA σ H s) (h:a4i wi (yc ts.length ix) g tc te σ H Q) (fin:a67 X aA σ use Q Qf) :
  wpAny (model X.prog X.w) X.A (comprehension (.ListComp aD [⟨tg,aF,cnd.toList,0⟩] aB pos) aB X.env ppos (newList []) false (eval aF X.env) use) Qf X.xe s:=by
 refine wpAny_comprehension_free (use:=use) rfl hs S.clos S.kind S.names (thn (hi aA s σ H _ I h) λv s1 h1=>thn h1 λitv s2 h2=>?_);obtain⟨it,fp,tn,J,H2,e,I2,T,st2,f2,W,⟨m0,w0⟩,turn⟩:=h2;subst e;have hob:∀b∈fp,b<s2.heap.objs.size:=λb hb=>let ⟨o,e,_⟩:=T.obj _ _ st2 b hb;aS e;refine cX (afy S.own S.push S.kind λh4 hns4 hc4 hsb4=>?_);dsimp only at hns4 hc4 hsb4 ⊢
 generalize hH2:s2.heap.push {cls:=.type "list",dict:=none,data:=.seq ([]:List Value).toArray}=G at hns4 hc4 hsb4 ⊢
 have hCs:G.objs.size=s2.heap.objs.size+1:=by rw[<-hH2,eE]
 have hCle:s2.heap.objs.size<=G.objs.size:=by omega
 have hne:G.objs.size≠s2.heap.objs.size:=by omega
 have old:∀b o,s2.heap.get? b=some o->h4.get? b=some o:=λb o e=>by
  have hlt:=aS e;exact hsb4 b o (hH2 ▸ aJ _ e)
 have hacc:h4.get? s2.heap.objs.size=some {cls:=.type "list",data:=.seq ([]:List Value).toArray 0} :=
  hsb4 _ _ (hH2 ▸ bb _ rfl)
 have K0:Inv (cxG X (ts++fr) aB cl tt G.objs.size fp s2 H2) [] (yc ts.length ix σ) H2 {s2 with heap:=h4} :=
  ag1 S I2 f2 hob hCle old hns4 hc4 rfl rfl
 have st4:tn 0 h4:=T.keep _ _ _ st2 λb _ o e=>old b o e;have accF:s2.heap.objs.size∉fp:=λz=>cG _ (hob _ z);have stat:∀{H':Hp},(∀b∈fp,H' b=none)->∀b∈fp,FpOk (cxG X (ts++fr) aB cl tt G.objs.size fp s2 H2) [] H' b:=λhn b hb =>
  at7 (a9o S I2 f2 hob hCle) rfl (hn b hb) hb
 have statA:∀{H':Hp},H' s2.heap.objs.size=none->FpOk (cxG X (ts++fr) aB cl tt G.objs.size fp s2 H2) [] H' s2.heap.objs.size:=λhn =>
  amk (a9o S I2 f2 hob hCle) rfl hn rfl (dW hne) λx c e=>by
   rcases look e with⟨_,rfl⟩|⟨_,e⟩
   .exact λz=>no3 z hCle
   .exact ag2 I2 (S.sub x c e)
 have loop:codeAny (model X.prog X.w) X.A (.compLoop (.ListComp aD [⟨tg,aF,cnd.toList,0⟩] aB pos) 0 (.ref it) (.ref s2.heap.objs.size) (compEnvC aB (amj tt (G.objs.size+1) cl) G.objs.size X.env))
   (compPost (model X.prog X.w) X.A X.xe use Qf (.ref s2.heap.objs.size) G.objs.size) {s2 with heap:=h4} :=
  ag3 (Y:=cxG X (ts++fr) aB cl tt G.objs.size fp s2 H2) hc (λ_ _ h=>h) rfl T stat statA accF (hg _ _ _ _) (he _ _ _ _) (ht _ _ _ _) turn w0 K0 st4 (λb hb=>(f2 b hb).1) (I2.hok.fresh (a8 _)) hacc λs6 H6 ys its k I6 fa rv hz qn=>by
   have e6:=(I6.pin (s2.heap.objs.size,{cls:=.type "list",data:=.seq its.toArray k}) (by show _∈[]++[_];simp)).1
   obtain⟨m6,hn6,_⟩:=I6.loc;exact fin _ _ s6 _ m6 hn6 (I2.fpOk hCle (by rw[jk hne];exact I6.free)) (λh' sb=>a7i (Y:=cxG X (ts++fr) aB cl tt G.objs.size fp s2 H2) (ho:=.lst ys) I2 f2 hCle (a8 _) ⟨rfl,rfl,rfl,rfl,rfl,rfl,rfl⟩ I6.unpinned' fa ⟨hz,its,k,rv,sb.extBut _ _ (dW hne) e6⟩ sb) (qn _ fa)
 exact codeAny_compStart_list loop (T.self _ 0 _ _ _ st4 loop)
theorem a9p(hc:X.calm=true)(S:CSc X aB cl ts fr ix)(hi:PI X tg aF wi)
  (hg:∀C fp s H,PG (cxC X (ts++fr) aB cl C fp s H) tg g) (he:∀C fp s H,PE (cxC X (ts++fr) aB cl C fp s H) aD te) (hs:∀x,foldedSetIterable aF X.env x=pure x)
  (use:Option (Value->Sem Unit)) (I:Inv X aA σ H s) (h:afz wi (yc ts.length ix) g te σ H Q) (fin:a67 X aA σ use Q Qf) :
  wpAny (model X.prog X.w) X.A (comprehension (.ListComp aD [⟨tg,aF,[],0⟩] aB pos) aB X.env ppos (newList []) false (eval aF X.env) use) Qf X.xe s:=by
 refine a7j (cnd:=none) (tc:=λσ H Q=>Q true H) hc S hi hg he (λ_ _ _ _ aA s σ H Q I h=>aN ⟨H,I,h⟩) hs use I ?_ fin;unfold a4i ab4;unfold afz aou at h;simpa only[dB] using h
theorem ajp(hc:X.calm=true)(S:CSc X aB cl ts fr ix)(hi:PI X tg aF wi)
  (hg:∀C fp s H,PG (cxC X (ts++fr) aB cl C fp s H) tg g) (he:∀C fp s H,PE (cxC X (ts++fr) aB cl C fp s H) aD te)
  (hs:∀x,foldedSetIterable aF X.env x=pure x:=by intro _;rfl) :
  PE X (.ListComp aD [⟨tg,aF,[],0⟩] aB pos) (afz wi (yc ts.length ix) g te):=by
 intro aA s σ H Q I h
 rw[eval_ListComp];exact a9p hc S hi hg he hs none I h a89
theorem ajq{spos:Pos}(hN:X.N.Nodup)(hi':X.N[i]? = some x)(hx:Loc X.env.scope x)(hc:X.calm=true)(S:CSc X aB cl ts fr ix)(hi:PI X tg aF wi)
  (hg:∀C fp s H,PG (cxC X (ts++fr) aB cl C fp s H) tg g) (he:∀C fp s H,PE (cxC X (ts++fr) aB cl C fp s H) aD te)
  (hs:∀x,foldedSetIterable aF X.env x=pure x:=by intro _;rfl) (hsw:swapsWith (.ListComp aD [⟨tg,aF,[],0⟩] aB pos) (some (.Name x pos')) spos.line X.env=pure true:=by rfl) (hf:Hf X x:=by first|exact .inl rfl|exact .inr rfl|assumption) :
  PS X (.Assign [.Name x pos'] (.ListComp aD [⟨tg,aF,[],0⟩] aB pos) spos) (aww (afz wi (yc ts.length ix) g te) (a71 i)):=by
 intro aA s σ H D I h
 rw[exec_Assign_Name_used _ _ _ _ hsw];refine ag (de (ag ?_));refine ag (bO (a9p hc S hi hg he hs (some (assign (.Name x pos') X.env)) I h (acp hN hi' hx hf)) (λ_ s' hq=>aN (aN hq)) λ_ _ e=>e)
end
section
variable{K:Type}[DecidableEq K]
noncomputable def stepK(l:List K)(v:K):List K:=if v∈l then l else l++[v]
def a5h(l:List K):List K:=l.foldl stepK []
theorem ag4(l:List K)(v k:K):k∈stepK l v↔k∈l\/k=v:=by
 unfold stepK;split
 .rename_i h
  constructor
  .exact .inl
  .rintro(z|rfl)
   .exact z
   .exact h
 .simp
theorem a9q(l:List K)(v:K):(stepK l v).length=if v∈l then l.length else l.length+1:=by
 unfold stepK;split<;>simp
theorem a4j:∀(l acc:List K),acc.Nodup->(l.foldl stepK acc).Nodup/\(l.foldl stepK acc).length<=acc.length+l.length/\((l.foldl stepK acc).length=acc.length+l.length↔(acc++l).Nodup)
 |[],acc,h=>by simp[h]
 |v::l,acc,h=>by
  rw[dH];unfold stepK
  split
  .rename_i hv;obtain⟨h1,h2,h3⟩:=a4j l acc h;unfold stepK at h1 h2 h3;refine⟨h1,by rw[aM];omega,?_⟩
   constructor
   .intro e;rw[aM]at e;omega
   .intro e
    have:=(bC.mp e).2.2 v hv v aX
    exact absurd rfl this
  .rename_i hv;obtain⟨h1,h2,h3⟩:=a4j l (acc++[v]) (by
    rw[bC];exact⟨h,by simp,λa ha b hb=>by rw[aI]at hb;subst hb;rintro rfl;exact hv ha⟩)
   unfold stepK at h1 h2 h3;rw[a9,ay]at h2 h3;rw[c9,eJ]at h3;refine⟨h1,by rw[aM];omega,?_⟩
   rw[<-h3,aM];omega
theorem a9r(l:List K):((a5h l).length=l.length)↔l.Nodup:=by
 have h:=(a4j l [] dD).2.2;rw[bg,eK,bR]at h;exact h
theorem ag5{J:Type}[DecidableEq J](f:K->J)(hf:∀a b,f a=f b->a=b)(l:List K):a5h (l.map f)=(a5h l).map f:=by
 have key:∀(l acc:List K),(l.map f).foldl stepK (acc.map f)=(l.foldl stepK acc).map f:=by
  intro l
  induction l with
  |nil=>intro acc;rfl
  |cons v l ih =>
   intro acc
   rw[b6,dH,dH];have e:stepK (acc.map f) (f v)=(stepK acc v).map f:=by
    unfold stepK
    by_cases hv:v∈acc
    .rw[ai hv,ai (dY hv)]
    .rw[aL hv,aL (λz=>by
      obtain⟨a,ha,e⟩:=bF.mp z;rw[hf a v e]at ha;exact hv ha)]
     simp
   rw[e,ih]
 exact key l []
noncomputable def ab5(val:Nat->K)(i:Nat):List K:=a5h ((List.range i).map val)
theorem a68(val:Nat->K)(i:Nat):ab5 val (i+1)=stepK (ab5 val i) (val i):=by
 unfold ab5 a5h;rw[List.range_succ,cC,List.foldl_append];rfl
theorem ag6(val:Nat->K):∀i,(ab5 val i).length<=i
 |0=>by simp[ab5,a5h]
 |i+1=>by
  rw[a68,a9q];have:=ag6 val i
  split<;>omega
end
section
variable{prog:Program}{w:World}{K:Type}[DecidableEq K]{knd:KeyKind prog w K}{A:Around}{R:Result->Shared->Prop}
def Held(knd:KeyKind prog w K)(S:Addr)(val:Nat->K)(i:Nat)(h:Heap):Prop:=h.SetOf knd S (λk=>decide (k∈ab5 val i)) (ab5 val i).length
theorem Held.keep{h':Heap}(x:Held knd S val i h)(k:∀o,h.get? S=some o->h'.get? S=some o):Held knd S val i h':=by
 obtain⟨o,es,ep,t,e,aG⟩:=x;exact⟨o,es,ep,t,k o e,aG⟩
theorem ajr{s:Shared}(is:knd.is (val i) v=true)(sc:v.scannable=true)(few:i+1<scanBound)(x:Held knd S val i s.heap)
  (q:∀b h' tk,Held knd S val (i+1) h'->(∀c,c≠S->h'.get? c=s.heap.get? c)->Q b {s with heap:=h',toks:=tk}):wpAny (model prog w) A (setAdd S v) Q E s:=by
 have le:=ag6 val i;have key:∀k,(decide (k∈ab5 val i) || decide (k=val i))=decide (k∈ab5 val (i+1)):=λk=>by
  rw[a68,cQ];simp[ag4]
 have num:(if decide (val i∈ab5 val i)=true then (ab5 val i).length else (ab5 val i).length+1)=(ab5 val (i+1)).length:=by
  rw[a68,a9q];simp
 have y:wpAny (model prog w) A (setAddHashed S v (knd.hash (val i))) Q E {s with toks:=s.toks+1} :=
  wpAny_setAddHashed_of is sc x (by omega) λh' same z=>q _ h' _ (by unfold Held;rw[<-num,<-funext key];exact z) λc hc=>same.2 c hc
 exact cD (ag (knd.pyHash is y))
theorem a69{I S:Addr}{fp wr:List Addr}{n:Nat}{P:Nat->Value->Prop}{St:Nat->Heap->Prop}(W:Walks prog w A.in1 I fp wr n P St)(apart:S∉fp)(val:Nat->K)(key:∀i v,P i v->knd.is (val i) v=true/\v.scannable=true)(few:n+1<scanBound) :
  ∀(left i:Nat) (s:Shared),i+left=n->St i s.heap->Held knd S val i s.heap->
   (∀h' tk,Held knd S val n h'->(∀c o,c≠S->c∉wr->s.heap.get? c=some o->h'.get? c=some o)->R (.ok (.ret .none)) {s with heap:=h',toks:=tk})->
   codeAny (model prog w) A (.builtin "set.update.loop" ⟨[.ref S,.ref I],[]⟩) R s
 | 0,i,s,hi,st,x,fin=>eY F.entry_set_update_loop (by
   obtain rfl:i=n:=by omega
   simp only[Around.under_plainId eh];exact ag (W.done s _ _ st λh' tk k=>aN (fin h' tk (x.keep λo e=>k S o (λz=>apart (W.sub S z)) e) λc o _ hc e=>k c o hc e)))
 | left+1,i,s,hi,st,x,fin=>eY F.entry_set_update_loop (by
   simp only[Around.under_plainId eh];refine ag (W.item i s _ _ (by omega) st λv h1 t1 p st1 k1=>?_)
   obtain⟨is,sc⟩:=key i v p;refine ag (cD (ajr is sc (by omega) (x.keep λo e=>k1 S o (λz=>apart (W.sub S z)) e) λ_ h2 t2 x2 k2=>?_))
   refine aN ⟨plainId_quiet eh _,a69 W apart val key few left (i+1) _ (by omega) (W.frame _ _ _ st1 λc hc o e=>(k2 c (λz=>apart (z ▸ hc))).trans e) x2 λh3 t3 x3 k3=>?_⟩
   exact fin h3 t3 x3 λc o cS cw e=>k3 c o cS cw ((k2 c cS).trans (k1 c o cw e)))
end
theorem ajs:isSubtype (.type "str") (.type "set")=pure false/\isSubtype (.type "str") (.type "frozenset")=pure false:=by
 constructor<;>(rw[isSubtype_type];kernel_rfl)
section
variable{prog:Program}{w:World}{A:Around}{E:Value->Shared->Prop}{s:Shared}
def a4z(x:Str)(i:Nat):Str:=⟨#[x.cps.getD i 0]⟩
abbrev a2s(led:Bool):Obj:={cls:=.type "set",dict:=none,data:=.set #[] 0 (.fresh 0 0 led)}
theorem ag7{K:Type}[DecidableEq K]{knd:KeyKind prog w K}{S:Addr}{val:Nat->K}{h:Heap}{led:Bool}(e:h.get? S=some (a2s led)):Held knd S val 0 h :=
 (PyProof.Rows.setObjOf_fresh (knd:=knd) led).setOf e (by decide)
theorem ajt{x:Str}{t:Tok}{led:Bool}{R:Result->Shared->Prop}(hh:A.handled=none)(few:x.cps.size+1<scanBound)
  (q:∀h' tk,Held (strKind prog w) s.heap.objs.size (a4z x) x.cps.size h'->(∀c o,s.heap.get? c=some o->h'.get? c=some o)->R (.ok (.ret .none)) {s with heap:=h',toks:=tk}) :
  wpAny (model prog w) A.in1 (Builtin.«set.__init__» ⟨[.ref s.heap.objs.size,.str x t],[]⟩)
   (λfin s'=>match fin with|.done f=>R (.ok f) s'|.again c'=>c'.quiet=true/\codeAny (model prog w) A c' R s') (λe s'=>R (.error e) s') {s with heap:=s.heap.push (a2s led)}:=by
 have at0:(s.heap.push (a2s led)).get? s.heap.objs.size=some (a2s led):=bb _ rfl;have ne1:(Value.type "str" == Value.type "dict")=false:=by decide
 obtain⟨no1,no2⟩:=ajs;unfold Builtin.«set.__init__»;unfold noKeywords Builtin.Frozenset.updateFrom
 generalize ep:pyIter=walker
 wp_walk
 subst ep;refine wpAny_pyIter_str λo St W st=>ag (wpAny_runValue ?_);have far:s.heap.objs.size∉[(s.heap.push (a2s led)).objs.size]:=λz=>by
  have:=aI.mp z
  rw[eE]at this;exact absurd this (bY (Nat.lt_succ_self _))
 refine a69 (knd:=strKind prog w) (W _ (by simp[hh])) far (a4z x) (λi v ⟨c,u,e,ev⟩=>?_) few x.cps.size 0 _ (by omega) st (ag7 (aJ _ at0)) λh' tk held k=>?_
 .subst ev;refine⟨?_,rfl⟩;have ec:a4z x i=⟨#[c]⟩:=by simp[a4z,Array.getD_eq_getD_getElem?,e]
  rw[ec];show Value.isStrOf _ (.str _ u)=true;simp[Value.isStrOf]
 .refine aN (aN ?_);refine q h' tk held λc o e=>k c o ?_ ?_ (aJ _ (aJ _ e))
  .exact bY (aS e)
  .intro z
   have:=aI.mp z
   rw[eE]at this;exact absurd (aS e) (by rw[this];exact Nat.not_lt.mpr (Nat.le_succ _))
theorem a9s{x:Str}(hh:A.handled=none)(few:x.cps.size+1<scanBound)
  (q:∀h' tk,Held (strKind prog w) s.heap.objs.size (a4z x) x.cps.size h'->(∀c o,s.heap.get? c=some o->h'.get? c=some o)->Q (.ref s.heap.objs.size) {s with heap:=h',toks:=tk}) :
  wpAny (model prog w) A (call (.type "set") [.str x t]) Q E s:=by
 obtain⟨_,_,order⟩:=dM.mro;have made:=dM.made;have self:=dM.sub;have nt:=dM.notType;have cc:=dM.canCreate;have tc:=F.typeCall_set_1 (.str x t);refine wpAny_call (codeAny_of_tree (aN ⟨Code.quiet_builtin _ (by decide +kernel),eY F.entry_type_call ?_⟩))
 simp only[Around.under_plain (weight_type_call_type "set" [.str x t] []) rfl]
 repeat any_goals first|assumption|wp_step
 refine eG (code_set_new_1 (.str x t) (E:=E) (Q₁:=λobj s1=>obj=.ref s.heap.objs.size/\∃led,s1={s with heap:=s.heap.push (a2s led)}) λled=>⟨rfl,led,rfl⟩) λr s1 hr=>?_
 match r,hr with
 |.error _,hr=>exact hr
 |.ok (.ret _),⟨eo,led,es⟩ =>
  subst eo es;have ty:Shared.TypeIs {s with heap:=s.heap.push (a2s led)} (.ref s.heap.objs.size) "set":=⟨_,bb _ rfl,rfl⟩
  have look:=dM.init.lookup;have bound:=dM.init.bind (.ref s.heap.objs.size)
  repeat any_goals first|assumption|wp_step
  refine eG (eS (R:=wants (λr s2=>r=.none/\Q (.ref s.heap.objs.size) s2) E) dM.init.plain F.entry_set_init (check_set_init_1 ty (ajt hh few λh' tk x1 k1=>⟨rfl,q h' tk x1 k1⟩))) λr2 s2 hr2=>?_
  match r2,hr2 with
  |.error _,hr2=>exact hr2
  |.ok (.ret _),⟨e2,q2⟩ =>
   subst e2
   repeat any_goals first|assumption|wp_step
  |.ok .next,hr2=>exact hr2.elim
  |.ok .brk,hr2=>exact hr2.elim
  |.ok .cont,hr2=>exact hr2.elim
 |.ok .next,hr=>exact hr.elim
 |.ok .brk,hr=>exact hr.elim
 |.ok .cont,hr=>exact hr.elim
end
noncomputable def ayb(a:Addr)(P:Program)(w:World)(n:Nat):HO:=.ext λh=>∃S,h.SetOf (strKind P w) a S n
section
variable{X:Cx}
theorem aeg(hc:X.calm=true):CallR X (.type "set") (λxs H Q=>∃z,xs=[.str z]/\z.length<=1000/\∀l,H l=none->Q (.ref l) (upd H l (ayb l X.prog X.w (a5h z.cps.toList).length))):=by
 intro aA s σ H xs us Q I r h
 obtain⟨z,rfl,hz,q⟩:=h;obtain⟨u,rfl,t,rfl⟩:=vals1 r;have hz':z.cps.size<=1000:=hz;refine a9s (I.ok.hd hc) (by unfold scanBound;omega) λh' tk hS kp=>?_
 unfold Held at hS;have en:(ab5 (a4z z) z.cps.size).length=(a5h z.cps.toList).length:=by
  have e1:(List.range z.cps.size).map (a4z z)=z.cps.toList.map λc=>(⟨#[c]⟩:Str):=by
   apply List.ext_getElem?
   intro i
   rw[bV,bV]
   by_cases hi:i<z.cps.size
   .rw[List.getElem?_range hi];simp[a4z,hi]
   .rw[List.getElem?_eq_none (by simpa using hi),List.getElem?_eq_none (by simpa using hi)];rfl
  unfold ab5;rw[e1,ag5 (λc=>(⟨#[c]⟩:Str)) (λa b e=>by cases e;rfl),aE]
 rw[en]at hS;refine⟨.ref s.heap.objs.size,_,I.laid (t':=tk) (o:=ayb s.heap.objs.size X.prog X.w (a5h z.cps.toList).length) kp (a8 _) ?_,rfl,q _ (I.hok.fresh (a8 _))⟩;refine⟨⟨_,hS⟩,let ⟨o,_,_,_,e,_⟩:=hS; ⟨o,e⟩,λh1 h2 p k=>?_⟩;obtain⟨S,o,es,ep,t,e,r⟩:=p;exact⟨S,o,es,ep,t,k o e,r⟩
theorem call_len_set:CallR X (.builtin "len") (λxs H Q=>∃l n,xs=[.ref l]/\H l=some (ayb l X.prog X.w n)/\Q (.int (n:Nat)) H):=by
 intro aA s σ H xs us Q I r h
 obtain⟨l,n,rfl,hl,q⟩:=h;obtain⟨u,rfl,rx⟩:=vals1 r;cases rx
 obtain⟨⟨S,o,es,ep,t,e,hex,hd,_,_,hb,hf,hn⟩,_⟩:=I.hok l _ hl;refine PySem.call_len_set e hex hd hf (by unfold scanBound at hb;omega) ⟨.int (n:Nat),H,I.tok _,⟨_,by rw[hn]⟩,q⟩
end
end L2
namespace L2
theorem ag8:bootBuiltins "len" = some (.builtin "len"):=PySem.boot_len
theorem jd:bootBuiltins "isinstance" = some (.builtin "isinstance"):=by first|exact PySem.boot_isinstance|exact PyProof.Rows.boot_isinstance
theorem at8:bootBuiltins "str" = some (.type "str"):=by first|exact PySem.boot_str|exact PyProof.Rows.boot_str
theorem at9:bootBuiltins "ord" = some (.builtin "ord"):=by first|exact PySem.boot_ord|exact PyProof.Rows.boot_ord
theorem ata:bootBuiltins "set" = some (.type "set"):=by first|exact PySem.boot_set|exact PyProof.Rows.boot_set
theorem atb:bootBuiltins "all" = some (.builtin "all"):=by first|exact PySem.boot_all|exact PyProof.Rows.boot_all
theorem atc:bootBuiltins "abs" = some (.builtin "abs"):=by first|exact PySem.boot_abs|exact PyProof.Rows.boot_abs
theorem aml:bootBuiltins "int" = some (.type "int"):=by first|exact PySem.boot_int|exact PyProof.Rows.boot_int
theorem aov:bootBuiltins "list" = some (.type "list"):=by first|exact PySem.boot_list|exact PyProof.Rows.boot_list
theorem acq:bootBuiltins "tuple" = some (.type "tuple"):=by first|exact PySem.boot_tuple|exact PyProof.Rows.boot_tuple
structure Dn (P:Program) (w:World) (K:Fg) (mg:Str->Option Value) (base:Heap) (k:Nat) (x:Str) (ps:List Str) (sp:Sp) (f:Addr) (fd:FuncData):Prop where
 ok:FnOk P w K mg base CX0 k f fd ps sp
 m:mg x=some (.ref f)
 kp:PySem.W.keepIn K (.ref f)=true
 b:Binds K fd ps []
theorem aow:sizeLine=16777216:=fJ
theorem a8a(h:n<=16777216):n<=sizeLine:=by rw[fJ];exact h
theorem CSc.noFree{aB:Scope}(kind:aB.kind=.function)(h:∀y∈aB.names,y.2≠.cell/\y.2≠.free)(names:∀y∈aB.names,y.2=.local->aB.names.lookup y.1=some .local)
  (ht:∀y∈ts,aB.names.lookup y=some .local):CSc X aB [] ts [] []:=by
 have e:(relabel aB X.env).names=aB.names:=by
  show aB.names.map _=_;refine map_eq_self λy hy=>?_;obtain⟨n,k⟩:=y;have:(k == NameKind.free)=false:=by simpa using (h _ hy).2
  simp[this]
 refine⟨closureFor_none λy hy=>(h y hy).2,kind,λ_=>a88 λy hy=>(h y hy).1,λ_=>ab3 λy hy=>(h y hy).1,names,(λ_ _ z=>nomatch z),λy z=>?_,rfl,(λ_ _ z=>by simp at z)⟩
 rw[e]at z
 rcases z with z|z
 .exact absurd rfl (h _ (c5 z)).1
 .exact absurd rfl (h _ (c5 z)).2
theorem ayc(x y:Str):(x++y).cps.toList=x.cps.toList++y.cps.toList:=by
 show(x.cps++y.cps).toList=_;simp
theorem ab6{α:Type}(xs:List α)(k:Nat):a72 xs none (some (k:Int))=xs.take k:=by
 unfold a72;rw[HT.acn,HT.afo,gc,Nat.sub_zero]
 by_cases h:k<=xs.length
 .rw[fW h]
 .rw[Nat.min_eq_right (by omega),bB (a8 _),bB (by omega)]
theorem a9t{α:Type}(xs:List α)(k:Nat):a72 xs (some (k:Int)) none=xs.drop k:=by
 unfold a72;rw[HT.acn,HT.afo]
 by_cases h:k<=xs.length
 .rw[fW h,bB (by rw[aY];omega)]
 .rw[Nat.min_eq_right (by omega),cB (a8 _),cB (by omega),List.take_nil]
end L2
namespace L2
open PyProof.Rows
section
variable{X:Cx}
theorem a6a(hc:X.calm=true)(S:CSc X aB cl ts fr ix)(hi:PI X tg aF wi)
  (hg:∀C fp s H,PG (cxC X (ts++fr) aB cl C fp s H) tg g) (he:∀C fp s H,PE (cxC X (ts++fr) aB cl C fp s H) aD te) (ht:∀C fp s H,PT (cxC X (ts++fr) aB cl C fp s H) cnd tc) (hs:∀x,foldedSetIterable aF X.env x=pure x)
  (use:Option (Value->Sem Unit)) (I:Inv X aA σ H s) (h:a4i wi (yc ts.length ix) g tc te σ H Q) (fin:a67 X aA σ use Q Qf) :
  wpAny (model X.prog X.w) X.A (comprehension (.ListComp aD [⟨tg,aF,[cnd],0⟩] aB pos) aB X.env ppos (newList []) false (eval aF X.env) use) Qf X.xe s :=
 a7j (cnd:=some cnd) hc S hi hg he ht hs use I h fin
theorem aeh(hc:X.calm=true)(S:CSc X aB cl ts fr ix)(hi:PI X tg aF wi)
  (hg:∀C fp s H,PG (cxC X (ts++fr) aB cl C fp s H) tg g) (he:∀C fp s H,PE (cxC X (ts++fr) aB cl C fp s H) aD te) (ht:∀C fp s H,PT (cxC X (ts++fr) aB cl C fp s H) cnd tc)
  (hs:∀x,foldedSetIterable aF X.env x=pure x:=by intro _;rfl) :
  PE X (.ListComp aD [⟨tg,aF,[cnd],0⟩] aB pos) (a4i wi (yc ts.length ix) g tc te):=by
 intro aA s σ H Q I h
 rw[eval_ListComp];exact a6a hc S hi hg he ht hs none I h a89
theorem aei{spos:Pos}(hN:X.N.Nodup)(hi':X.N[i]? = some x)(hx:Loc X.env.scope x)(hc:X.calm=true)(S:CSc X aB cl ts fr ix)(hi:PI X tg aF wi)
  (hg:∀C fp s H,PG (cxC X (ts++fr) aB cl C fp s H) tg g) (he:∀C fp s H,PE (cxC X (ts++fr) aB cl C fp s H) aD te) (ht:∀C fp s H,PT (cxC X (ts++fr) aB cl C fp s H) cnd tc)
  (hs:∀x,foldedSetIterable aF X.env x=pure x:=by intro _;rfl) (hsw:swapsWith (.ListComp aD [⟨tg,aF,[cnd],0⟩] aB pos) (some (.Name x pos')) spos.line X.env=pure true:=by rfl) (hf:Hf X x:=by first|exact .inl rfl|exact .inr rfl|assumption) :
  PS X (.Assign [.Name x pos'] (.ListComp aD [⟨tg,aF,[cnd],0⟩] aB pos) spos) (aww (a4i wi (yc ts.length ix) g tc te) (a71 i)):=by
 intro aA s σ H D I h
 rw[exec_Assign_Name_used _ _ _ _ hsw];refine ag (de (ag ?_));refine ag (bO (a6a hc S hi hg he ht hs (some (assign (.Name x pos') X.env)) I h (acp hN hi' hx hf)) (λ_ s' hq=>aN (aN hq)) λ_ _ e=>e)
end
section
variable{X:Cx}
def ab7(T:Str)(c:Nat):Int:=Txt.find T ⟨#[c]⟩
theorem ab8(s sub:Str)(hi limit:Nat):∀(l:List Nat) (st:Array Nat×Nat) (k:Nat),k∈(forIn l st (StrLaws.occBody s sub hi limit)).run.fst.toList->k∈st.fst.toList\/(k+sub.length<=hi/\Builtin.Str.subAt s sub k=true)
 |[],st,k,h=>.inl h
 |a::l,st,k,h=>by
  rw[List.forIn_cons]at h;unfold StrLaws.occBody at h
  split at h
  .rename_i c
   rcases ab8 s sub hi limit l _ k h with z|z
   .simp at z
    rcases z with z|z
    .exact .inl (by simpa using z)
    .subst z;exact .inr ⟨c.1.2,c.2⟩
   .exact .inr z
  .rcases ab8 s sub hi limit l _ k h with z|z
   .exact .inl z
   .exact .inr z
theorem acr{T:Str}(h:c∈T.cps.toList):∃i:Nat,ab7 T c=(i:Int)/\T.cps.toList[i]? = some c/\∃aG,Builtin.Str.occurrences T ⟨#[c]⟩ 0 T.length 1=i::aG:=by
 have h1:=fG T c;rw[aw h]at h1
 cases ho:Builtin.Str.occurrences T ⟨#[c]⟩ 0 T.length 1 with
 |nil=>rw[ho]at h1;cases h1
 |cons i aG =>
  refine⟨i,by simp[ab7,Txt.find,ho],?_,aG,rfl⟩
  rw[StrLaws.occ_eq]at ho;have hm:=ab8 T ⟨#[c]⟩ T.length 1 (List.range' 0 (T.length+1-0)) (#[],0) i (by rw[ho];exact aX)
  rcases hm with z|z
  .simp at z
  .exact(StrLaws.subAt_one T c i).mp z
theorem ag9:OpR X (compareOp .In) (λx y H Q=>∃c T,x=.str ⟨#[c]⟩/\y=.str T/\Q (.bl (decide (c∈T.cps.toList))) H):=by
 intro aA s σ H x y v u Q I rx ry h
 obtain⟨c,T,rfl,rfl,q⟩:=h;exact afg aA s σ H _ _ v u Q I rx ry ⟨_,_,rfl,rfl,by rw[fG];exact q⟩
theorem aej:OpR X (compareOp .NotIn) (λx y H Q=>∃c T,x=.str ⟨#[c]⟩/\y=.str T/\Q (.bl (!decide (c∈T.cps.toList))) H):=by
 intro aA s σ H x y v u Q I rx ry h
 obtain⟨c,T,rfl,rfl,q⟩:=h;exact a98 aA s σ H _ _ v u Q I rx ry ⟨_,_,rfl,rfl,by rw[fG];exact q⟩
theorem aju:MtR X "str.index" (λx xs H Q=>∃T c,x=.str T/\xs=[.str ⟨#[c]⟩]/\c∈T.cps.toList/\Q (.int (ab7 T c)) H):=by
 intro aA s σ H x xs v us Q I rx rs h
 obtain⟨T,c,rfl,rfl,hc,q⟩:=h;obtain⟨t,rfl⟩:=rx;obtain⟨u,rfl,t',rfl⟩:=vals1 rs;obtain⟨i,e1,e2,aG,ho⟩:=acr hc;refine e7 F.slot_str_index (typeIs_str _ _ _) F.entry_str_index (F.args_str_index_2 _ _) (gives_str_index _ _ _ _ i aG ho).meets ⟨.int (ab7 T c),H,I.tok _,⟨_,by rw[e1]⟩,q⟩
theorem aox{zs:List Str}:∀{us:List Value},Vals (zs.map V.str) us->StrsAre us zs:=by
 induction zs with
 |nil=>intro us r;rw[cN]at r;cases r;exact .nil
 |cons z zs ih =>
  intro us r
  rw[b6]at r
  cases r with
  |cons r1 r2 =>
   obtain⟨t,e⟩:=r1;subst e;exact .cons z t (ih r2)
theorem aoy:MtR X "str.join" (λx xs H Q=>∃sep p zs,x=.str sep/\xs=[.ref p]/\SqL X.K H p (zs.map V.str)/\(zs.map (·.length)).sum+zs.length*sep.length<=16777216/\Q (.str (Txt.join sep zs)) H):=by
 intro aA s σ H x xs v us Q I rx rs h
 obtain⟨sep,p,zs,rfl,rfl,hp,hz,q⟩:=h;obtain⟨t,rfl⟩:=rx;obtain⟨u,rfl,ru⟩:=vals1 rs;cases ru
 obtain⟨its,r,pl,_⟩:=I.list hp;exact join_list pl.isList (by simpa using aox r) hz λt' k=>⟨.str _,H,I.tok _,⟨_,rfl⟩,q⟩
end
theorem CSc.of{X:Cx}{ts fr:List Str}{ix:List Nat}(clos:closureFor aB X.env=pure cl)(kind:aB.kind=.function)
  (nocell:(aB.names.all λp=>p.2 != .cell)=true) (names:(aB.names.all λp=>p.2 != .local || aB.names.lookup p.1 == some .local)=true) (sub:∀p∈cl,X.env.cells.lookup p.1=some p.2)
  (has:((relabel aB X.env).names.all λp => !(p.2 == .cell || p.2 == .free) || (cl.lookup p.1).isSome)=true) (nofn:(ts.all λy=>(relabel aB X.env).names.lookup y == some .local)=true)
  (len:ix.length=fr.length) (vis:((fr.zip ix).all λp=>X.N[p.2]? == some p.1 && (X.env.kindOf p.1 == some .cell || X.env.kindOf p.1 == some .free) && ((relabel aB X.env).names.lookup p.1 == some .cell || (relabel aB X.env).names.lookup p.1 == some .free))=true) :
  CSc X aB cl ts fr ix:=by
 have nc:∀y∈aB.names,y.2≠.cell:=λy hy=>by
  have:=aO.mp nocell y hy
  simpa using this
 refine⟨clos,kind,λ_=>a88 nc,λ_=>ab3 nc,λy hy e=>?_,λy c e=>sub _ (c5 e),λy z=>.inr ?_,len,λj y e=>⟨nofun,?_⟩⟩
 .have:=aO.mp names y hy
  rw[e]at this;simpa using this
 .have key:∀k,(relabel aB X.env).names.lookup y=some k->(k == .cell || k == .free)=true->∃c,cl.lookup y=some c:=λk e hk=>by
   have:=aO.mp has _ (c5 e)
   rw[hk]at this;exact fD.mp (by simpa using this)
  rcases z with z|z
  .exact key _ z rfl
  .exact key _ z rfl
 .obtain⟨hj,_⟩:=ae.mp e;have hj2:j<ix.length:=by omega
  have hm:(y,ix[j])∈fr.zip ix:=by
   rw[List.mem_iff_getElem?];exact⟨j,by rw[List.getElem?_zip_eq_some];exact⟨e,a6 hj2⟩⟩
  have:=aO.mp vis _ hm
  simp only[af,cR,eV]at this;exact⟨ix[j],a6 hj2,this.1.1,this.1.2,this.2⟩
def tSM(r:V->List V->Hp->VK->Prop)(to:TE)(t:TA):TE:=λσ H Q=>to σ H λx H1=>(∃z,x=.str z)/\t σ H1 λxs H2=>r x xs H2 Q
theorem ayd{X:Cx}{o e:Expr}{es:List Expr}{to:TE}{t:TA}{name:Str}{apos cpos:Pos}{id:String}{r:V->List V->Hp->VK->Prop}(slot:Slot "str" name id)(hty:typeOf (.builtin id)=pure (.type "method_descriptor"))(hm:MtR X id r)(ho:PE X o to)(ha:PA X (e::es) t)
  (hbase:attributeBase o name X.env (eval o X.env)=eval o X.env:=by rfl)
  (hfew:((backTo cpos (starEach (e::es) X.env)).all (λx => !x.1) && (backToKw cpos (keywordEach [] X.env)).all (λx=>x.1.isSome)
   && decide ((e::es).length+([]:List Keyword).length+(if ([]:List Keyword).isEmpty then 0 else 1)<30))=true:=by rfl)
  (hline:(apos.endLine == cpos.line)=true:=by rfl) (hs:starEach (e::es) X.env=(false,eval e X.env)::starEach es X.env:=by rfl) (hplain:(backTo cpos (starEach es X.env)).any (·.1)=false:=by rfl) :
  PE X (.Call (.Attribute o name apos) (e::es) [] cpos) (tSM r to t):=by
 intro aA s σ H Q I h
 refine wpAny_Call_method_late hbase hfew hline rfl (thn (ho aA s σ H _ I h) λv s1 ⟨x,H1,I1,r1,⟨z,hz⟩,q1⟩=>?_);subst hz;obtain⟨h1,h2⟩:=amg (T := "str") I1 r1 rfl;refine⟨"str",id,PySem.F.plainAttrs_str,slot,hty,h1,h2,?_⟩;have hA:=ha cpos aA s1 σ H1 _ I1 q1;rw[hs]at hA ⊢;refine Calls.callWith_builtin (by show(false || (backTo cpos (starEach es X.env)).any (·.1))=false;rw[hplain]<;>rfl) (eR ?_)
 exact thn hA λus s2 ⟨vs,H2,I2,r2,q2⟩=>hm aA s2 σ H2 _ vs v us Q I2 r1 r2 q2
section
variable{X:Cx}
theorem aek(hc:X.calm=true):CallR X (.builtin "sum") (λxs H Q=>∃(p:Addr) (ns:List Int),xs=[.ref p]/\SqL X.K H p (ns.map V.int)/\Q (.int ns.sum) H):=by
 intro aA s σ H xs us Q I r h
 obtain⟨p,ns,rfl,hq,q⟩:=h;obtain⟨u,rfl,rx⟩:=vals1 r;cases rx
 obtain⟨its,r',pl,hz⟩:=I.list hq;have hInts:IntsAre its ns:=intsAre_of r';obtain⟨prs,ep⟩:=hInts.allInts.items;refine sum_intListG (xs:=prs) (I.ok.hd hc) (ep ▸ pl.isList) λh' tk t' hk=>⟨.int ns.sum,H,I.kept hk,⟨t',?_⟩,q⟩;have nums:prs.toList.map (·.1)=ns:=by
  rw[<-nums_intItems,<-ep];exact hInts.numsOf
 have tot:preSum (numAt prs) prs.size=ns.sum:=by
  rw[preSum_eq,<-nums]
  congr 1
  exact bB (by simp)
 rw[tot]
end
open PySem.AutoSeq1 in
theorem a6b(l b:Addr)(xs ys:Array Value)(n m:Nat)(dd:Option Addr)(sl:Array (Option Value))(long:¬(!xs.isEmpty && Builtin.List.listTooLong (xs.size+ys.size))=true)(fit1:xs.size<=sizeLine)(fit2:xs.size+ys.size<=sizeLine+1) :
  Meets (Builtin.«list.extend» ⟨[.ref l,.ref b],[]⟩) (λ_ R s=>(s.heap.get? l=some {cls:=.type "list",dict:=none,data:=.seq xs n,slots := #[]}/\s.heap.get? b=some {cls:=.type "tuple",dict:=dd,data:=.seq ys m,slots:=sl})/\R (.ok (.ret Value.none)) {s with heap:=s.heap.update l (Obj.mapSeq (·++ys))}) :=
 .of_wp λprog w A R ⟨hp,gn,dr,tk,os⟩ ⟨⟨hl,hb⟩,q⟩=>by
  have a1:=idx_int;have a2:=AutoSeq1.sub_tuple_tuple;have a3:=AutoSeq1.sub_list_list;have a4:=AutoSeq1.sub_tuple_list;have a5:=AutoSeq1.sub_list_tuple;have both:(xs++ys).size<=sizeLine+1:=by simpa using fit2
  wp_walk using wpAny_updateSeq hl rfl (hz:=fit1) (_hz':=both),wpAny_loadPart' hl,wpAny_loadPart' hb
  exact⟨_,rfl,q⟩
section
variable{X:Cx}
def acs(K:Fg):V->List V->Hp->VK->Prop:=λx vs H Q=>∃l b xs zs,x=.ref l/\vs=[.ref b]/\H l=some (.lst xs)/\SqT K H b zs/\xs.length+zs.length<=sizeLine/\Q .non (upd H l (.lst (xs++zs)))
theorem ael:MtM X "list.extend" (acs X.K):=by
 intro aA s σ H x vs v us Q I rx rv h
 obtain⟨l,b,xs,zs,rfl,rfl,hH,hB,hz,q⟩:=h;cases rx
 obtain⟨u,rfl,ru⟩:=rv.one;cases ru
 obtain⟨z,its,n,r,hl,e⟩:=I.lstM hH;obtain⟨its2,r2,p2,_⟩:=I.tuple hB;have hl2:=r2.length;obtain⟨⟨cls,dd,data,sl⟩,e2,hc,hrest⟩:=id p2;have hsz:its.toArray.size+its2.toArray.size<=sizeLine:=by rw[ax,ax];omega
 have hlong:¬ (!its.toArray.isEmpty && Builtin.List.listTooLong (its.toArray.size+its2.toArray.size))=true:=by
  rw[a3i hsz,cO];exact aT
 obtain⟨n2,hd⟩:=(show ∃n2,data=.seq its2.toArray n2 from by first|exact hrest|exact⟨_,hrest.2⟩|(obtain⟨_,n,hd⟩:=hrest;exact⟨n,hd⟩))
 have hc':cls=.type "tuple":=hc;subst hc' hd;refine e7 F.slot_list_extend ⟨_,e,rfl⟩ F.entry_list_extend (F.args_list_extend_2 _ _)
  (a6b l b its.toArray its2.toArray n n2 dd sl hlong (by rw[ax];omega) (by omega)) ⟨⟨e,e2⟩,?_⟩
 refine⟨.non,_,I.lset (its':=its++its2) hH e (by simp) (r.append r2) ?_,rfl,q⟩
 rw[a9];omega
end
end L2
namespace MI
open L2
inductive D where
 |non|bl (b:Bool)|int (i:Int)|str (x:Str)|ty (n:String)|tup (xs:List D)|rol (xs:List D)|ref (i:Nat)|scr (xs:List D)|rod (ks:List Key) (xs:List D)|rdT (ks:List (List Key)) (xs:List D)|exc (c:Str)|ins (c:Str) (ks:List Str) (xs:List D)
inductive O where
 |lst (xs:List D)|dK (kvs:List (Key×D))|dT (kvs:List (List Key×D))|ins (c:Str) (fs:List (Str×D))|dN (kvs:List ((Int×List Int)×D))
abbrev Hd:=List O
abbrev Sd:=List (Option D)
inductive R (α:Type) where
 |ok (a:α) (h:Hd)|ex (c:Str) (h:Hd)|no
noncomputable def R.bind{α β:Type}:R α->(α->Hd->R β)->R β
 |.ok a h,k=>k a h
 |.ex c h,_=>.ex c h
 |.no,_=>.no
inductive Fl where
 |nx (σ:Sd) (h:Hd)|rt (d:D) (h:Hd)|bk (σ:Sd) (h:Hd)|ct (σ:Sd) (h:Hd)|ex (c:Str) (h:Hd)|no
noncomputable def R.fl{α:Type}:R α->(α->Hd->Fl)->Fl
 |.ok a h,k=>k a h
 |.ex c h,_=>.ex c h
 |.no,_=>.no
abbrev SE:=Sd->Hd->R D
abbrev ST:=Sd->Hd->R Bool
abbrev SA:=Sd->Hd->R (List D)
abbrev SS:=Sd->Hd->Fl
def SqF(K:Fg)(H:Hp)(a:Addr)(vs:List V):Prop:=(∃o,H a=some (.frz o (.lst vs)))\/SqL K (λ_=>none) a vs
theorem SqF.l(h:SqF K H a vs):SqL K H a vs:=by
 rcases h with⟨o,h⟩|h
 .exact .inl (.inr ⟨o,h⟩)
 .rcases h with(h|⟨o,h⟩)|h
  .cases h
  .cases h
  .exact .inr h
def SqZ(H:Hp)(a:Addr)(vs:List V):Prop:=∃o,H a=some (.frz o (.lst vs))
theorem SqZ.l(h:SqZ H a vs):SqL K H a vs:=let ⟨o,e⟩:=h; .inl (.inr ⟨o,e⟩)
noncomputable def exO(a:Addr):HO:=.ext λh=>∃o,h.get? a=some o
mutual
inductive Rep (K:Fg) (U:List Addr) (H:Hp):V->D->Prop
 |non:Rep K U H .non .non
 |bl (b:Bool):Rep K U H (.bl b) (.bl b)
 |int (i:Int):Rep K U H (.int i) (.int i)
 |str (x:Str):Rep K U H (.str x) (.str x)
 |ty (n:String):Rep K U H (.ty n) (.ty n)
 |tup {a:Addr} {vs:List V} {xs:List D} (h:H a=some (.tup vs)) (r:Reps K U H vs xs):Rep K U H (.ref a) (.tup xs)
 |rol {a:Addr} {vs:List V} {xs:List D} (h:SqZ H a vs) (r:Reps K U H vs xs):Rep K U H (.ref a) (.rol xs)
 |scr {a:Addr} {vs:List V} {xs:List D} (h:SqF K H a vs) (r:Reps K U H vs xs):Rep K U H (.ref a) (.scr xs)
 |ref {a:Addr} {i:Nat} (h:U[i]? = some a):Rep K U H (.ref a) (.ref i)
 |rod {a:Addr} {o:Obj} {us:List (Key×V)} {ks:List Key} {xs:List D} (h:H a=some (.frz o (.dK us))) (e:us.map (·.1)=ks) (r:Reps K U H (us.map (·.2)) xs):Rep K U H (.ref a) (.rod ks xs)
 |rdT {a:Addr} {o:Obj} {us:List (List Key×V)} {ks:List (List Key)} {xs:List D} (h:H a=some (.frz o (.dT us))) (e:us.map (·.1)=ks) (r:Reps K U H (us.map (·.2)) xs):Rep K U H (.ref a) (.rdT ks xs)
 |exc {a C:Addr} {o:Obj} {c:Str} (h:H a=some (.frz o (exO a))) (hc:o.cls=.ref C) (hn:PySem.W.nsIn K mainGlobals c=some (some (.ref C))):Rep K U H (.ref a) (.exc c)
 |ins {a C dx:Addr} {o:Obj} {c:Str} {us:List (Str×V)} {ks:List Str} {xs:List D} (h:H a=some (.frz o (.ins C dx us))) (hn:PySem.W.nsIn K mainGlobals c=some (some (.ref C))) (e:us.map (·.1)=ks) (r:Reps K U H (us.map (·.2)) xs):Rep K U H (.ref a) (.ins c ks xs)
inductive Reps (K:Fg) (U:List Addr) (H:Hp):List V->List D->Prop
 |nil:Reps K U H [] []
 |cons {v:V} {d:D} {vs:List V} {ds:List D} (r:Rep K U H v d) (rs:Reps K U H vs ds):Reps K U H (v::vs) (d::ds)
end
structure Gw (U:List Addr) (H:Hp) (U':List Addr) (H':Hp):Prop where
 pre:∃m,U'=U++m
 tup:∀a vs,H a=some (.tup vs)->H' a=some (.tup vs)
 frz:∀a o u,H a=some (.frz o u)->H' a=some (.frz o u)
structure Gr (U:List Addr) (H:Hp) (U':List Addr) (H':Hp):Prop where
 pre:∃m,U'=U++m/\∀a∈m,H a=none
 tup:∀a vs,H a=some (.tup vs)->H' a=some (.tup vs)
 frz:∀a o u,H a=some (.frz o u)->H' a=some (.frz o u)
 oth:∀a u,H a=some u->a∉U->H' a=some u
 kp:∀a u,H a=some u->∃u',H' a=some u'
theorem Gr.w(g:Gr U H U' H'):Gw U H U' H':=⟨let ⟨m,e,_⟩:=g.pre; ⟨m,e⟩,g.tup,g.frz⟩
theorem Gr.refl(U:List Addr)(H:Hp):Gr U H U H:=⟨⟨[],by simp,by simp⟩,λ_ _ h=>h,λ_ _ _ h=>h,λ_ _ h _=>h,λ_ u h=>⟨u,h⟩⟩
theorem Gr.trans(a:Gr U H U1 H1)(b:Gr U1 H1 U2 H2):Gr U H U2 H2:=by
 obtain⟨m,rfl,hm⟩:=a.pre;obtain⟨n,rfl,hn⟩:=b.pre;refine⟨⟨m++n,by simp,λx hx=>?_⟩,λx vs h=>b.tup x vs (a.tup x vs h),λx o u h=>b.frz x o u (a.frz x o u h),λx u h hx=>?_,λx u h=>?_⟩
 .rcases bG.mp hx with hx|hx
  .exact hm x hx
  .cases e:H x with
   |none=>rfl
   |some u =>
    obtain⟨u',e'⟩:=a.kp x u e;rw[hn x hx]at e';cases e'
 .refine b.oth x u (a.oth x u h hx) λz=>?_
  rcases bG.mp z with z|z
  .exact hx z
  .rw[hm x z]at h;cases h
 .obtain⟨u',e⟩:=a.kp x u h;exact b.kp x u' e
theorem Gw.at(g:Gw U H U' H'){i:Nat}(h:U[i]? = some a):U'[i]? = some a:=by
 obtain⟨m,rfl⟩:=g.pre;rw[aU (ae.mp h).1];exact h
theorem Gr.at(g:Gr U H U' H'){i:Nat}(h:U[i]? = some a):U'[i]? = some a:=g.w.at h
theorem SqF.monoW(g:Gw U H U' H')(h:SqF K H a vs):SqF K H' a vs:=by
 rcases h with⟨o,h⟩|h
 .exact .inl ⟨o,g.frz _ _ _ h⟩
 .exact .inr h
theorem SqZ.monoW(g:Gw U H U' H')(h:SqZ H a vs):SqZ H' a vs:=let ⟨o,e⟩:=h; ⟨o,g.frz _ _ _ e⟩
theorem SqZ.mono(g:Gr U H U' H')(h:SqZ H a vs):SqZ H' a vs:=h.monoW g.w
mutual
theorem Rep.monoW(g:Gw U H U' H'):∀{v:V} {d:D},Rep K U H v d->Rep K U' H' v d
 |_,_,.non=>.non
 |_,_,.bl b=>.bl b
 |_,_,.int i=>.int i
 |_,_,.str x=>.str x
 |_,_,.ty n=>.ty n
 |_,_,.tup h r=>.tup (g.tup _ _ h) (Reps.monoW g r)
 |_,_,.rol h r=>.rol (h.monoW g) (Reps.monoW g r)
 |_,_,.scr h r=>.scr (h.monoW g) (Reps.monoW g r)
 |_,_,.ref h=>.ref (g.at h)
 |_,_,.rod h e r=>.rod (g.frz _ _ _ h) e (Reps.monoW g r)
 |_,_,.rdT h e r=>.rdT (g.frz _ _ _ h) e (Reps.monoW g r)
 |_,_,.exc h hc hn=>.exc (g.frz _ _ _ h) hc hn
 |_,_,.ins h hn e r=>.ins (g.frz _ _ _ h) hn e (Reps.monoW g r)
theorem Reps.monoW(g:Gw U H U' H'):∀{vs:List V} {ds:List D},Reps K U H vs ds->Reps K U' H' vs ds
 |_,_,.nil=>.nil
 |_,_,.cons r rs=>.cons (Rep.monoW g r) (Reps.monoW g rs)
end
theorem Rep.mono(g:Gr U H U' H')(r:Rep K U H v d):Rep K U' H' v d:=r.monoW g.w
theorem Reps.mono(g:Gr U H U' H')(r:Reps K U H vs ds):Reps K U' H' vs ds:=r.monoW g.w
section
variable{K:Fg}{U:List Addr}{H:Hp}
theorem Reps.len:Reps K U H vs ds->vs.length=ds.length
 |.nil=>rfl
 |.cons _ rs=>by rw[aM,aM,rs.len]
theorem Reps.get:∀{vs:List V} {ds:List D} {i:Nat} {d:D},Reps K U H vs ds->ds[i]? = some d->∃v,vs[i]? = some v/\Rep K U H v d
 |_,_,_,_,.nil,e=>by simp at e
 |_,_,0,_,.cons r _,e=>by simp at e;subst e;exact⟨_,rfl,r⟩
 |_,_,i+1,d,.cons _ rs,e=>by
  obtain⟨u,h1,h2⟩:=Reps.get (i:=i) (d:=d) rs (by simpa using e)
  exact⟨u,by simpa using h1,h2⟩
theorem Reps.app:∀{vs us:List V} {ds es:List D},Reps K U H vs ds->Reps K U H us es->Reps K U H (vs++us) (ds++es)
 |_,_,_,_,.nil,s=>s
 |_,_,_,_,.cons r rs,s=>.cons r (Reps.app rs s)
theorem Reps.set(q:Rep K U H v d):∀{vs:List V} {ds:List D} (i:Nat),Reps K U H vs ds->Reps K U H (vs.set i v) (ds.set i d)
 |_,_,_,.nil=>.nil
 |_,_,0,.cons _ rs=>.cons q rs
 |_,_,i+1,.cons r rs=>.cons r (Reps.set q i rs)
theorem Reps.take:∀{vs:List V} {ds:List D} (n:Nat),Reps K U H vs ds->Reps K U H (vs.take n) (ds.take n)
 |_,_,0,_=>.nil
 |_,_,_+1,.nil=>.nil
 |_,_,n+1,.cons r rs=>.cons r (Reps.take n rs)
theorem Reps.drop:∀{vs:List V} {ds:List D} (n:Nat),Reps K U H vs ds->Reps K U H (vs.drop n) (ds.drop n)
 |_,_,0,r=>r
 |_,_,_+1,.nil=>.nil
 |_,_,n+1,.cons _ rs=>Reps.drop n rs
theorem Reps.erase:∀{vs:List V} {ds:List D} (n:Nat),Reps K U H vs ds->Reps K U H (vs.eraseIdx n) (ds.eraseIdx n)
 |_,_,_,.nil=>.nil
 |_,_,0,.cons _ rs=>rs
 |_,_,n+1,.cons r rs=>.cons r (Reps.erase n rs)
theorem Reps.snoc(r:Reps K U H vs ds)(q:Rep K U H v d):Reps K U H (vs++[v]) (ds++[d]):=r.app (.cons q .nil)
theorem Reps.flat:∀{vs:List V} {ds:List D} (k:Nat),Reps K U H vs ds->Reps K U H (List.replicate k vs).flatten (List.replicate k ds).flatten
 |_,_,0,_=>.nil
 |vs,ds,k+1,r=>by
  rw[cI,cI,bW,bW];exact r.app (Reps.flat k r)
end
def KRep{κ:Type}(K:Fg)(U:List Addr)(H:Hp)(us:List (κ×V))(kvs:List (κ×D)):Prop:=us.map (·.1)=kvs.map (·.1)/\Reps K U H (us.map (·.2)) (kvs.map (·.2))
def ORep(K:Fg)(U:List Addr)(H:Hp)(a:Addr):O->Prop
 |.lst xs=>∃vs,H a=some (.lst vs)/\Reps K U H vs xs
 |.dK kvs=>∃us,H a=some (.dK us)/\KRep K U H us kvs
 |.dT kvs=>∃us,H a=some (.dT us)/\KRep K U H us kvs
 |.ins c fs=>∃C dx us,H a=some (.ins C dx us)/\PySem.W.nsIn K mainGlobals c=some (some (.ref C))/\KRep K U H us fs
 |.dN kvs=>∃ent,NDE H a ent/\KRep K U H (ay9 ent) kvs
structure HRep (K:Fg) (U:List Addr) (H:Hp) (h:Hd):Prop where
 nd:U.Nodup
 len:U.length=h.length
 obj:∀(i:Nat) (a:Addr) (o:O),U[i]? = some a->h[i]? = some o->ORep K U H a o
section
variable{K:Fg}{U:List Addr}{H:Hp}{h:Hd}
theorem ORep.some(r:ORep K U H a o):∃u,H a=some u/\(∀vs,u≠.tup vs)/\(∀o' u',u≠.frz o' u'):=by
 cases o with
 |lst xs=>obtain⟨vs,e,_⟩:=r;exact⟨_,e,λ_ z=>(by cases z),λ_ _ z=>(by cases z)⟩
 |dK kvs=>obtain⟨us,e,_⟩:=r;exact⟨_,e,λ_ z=>(by cases z),λ_ _ z=>(by cases z)⟩
 |dT kvs=>obtain⟨us,e,_⟩:=r;exact⟨_,e,λ_ z=>(by cases z),λ_ _ z=>(by cases z)⟩
 |ins c fs=>obtain⟨C,dx,us,e,_⟩:=r;exact⟨_,e,λ_ z=>(by cases z),λ_ _ z=>(by cases z)⟩
 |dN kvs =>
  obtain⟨ent,e,_⟩:=r
  rcases e with⟨e,_⟩|⟨e,_⟩
  .exact⟨_,e.has,λ_ z=>(by cases z),λ_ _ z=>(by cases z)⟩
  .exact⟨_,e,λ_ z=>(by cases z),λ_ _ z=>(by cases z)⟩
theorem HRep.at(r:HRep K U H h){i:Nat}(e:U[i]? = some a):∃o,h[i]? = some o/\ORep K U H a o:=by
 have hi:i<h.length:=by rw[<-r.len];exact(ae.mp e).1
 exact⟨h[i],a6 hi,r.obj i a _ e (a6 hi)⟩
theorem HRep.addr(r:HRep K U H h){i:Nat}(e:h[i]? = some o):∃a,U[i]? = some a/\ORep K U H a o:=by
 have hi:i<U.length:=by rw[r.len];exact(ae.mp e).1
 exact⟨U[i],a6 hi,r.obj i _ o (a6 hi) e⟩
theorem HRep.notin(r:HRep K U H h)(e:H p=none):p∉U:=λz=>by
 obtain⟨i,hi⟩:=cf z;obtain⟨o,_,q⟩:=r.at hi;obtain⟨u,q,_⟩:=q.some;rw[e]at q;cases q
theorem ORep.monoW(g:Gw U H U' H')(e:H' a=H a)(r:ORep K U H a o):ORep K U' H' a o:=by
 cases o with
 |lst xs=>obtain⟨vs,h1,h2⟩:=r;exact⟨vs,by rw[e];exact h1,h2.monoW g⟩
 |dK kvs=>obtain⟨us,h1,h2,h3⟩:=r;exact⟨us,by rw[e];exact h1,h2,h3.monoW g⟩
 |dT kvs=>obtain⟨us,h1,h2,h3⟩:=r;exact⟨us,by rw[e];exact h1,h2,h3.monoW g⟩
 |ins c fs=>obtain⟨C,dx,us,h1,hn,h2,h3⟩:=r;exact⟨C,dx,us,by rw[e];exact h1,hn,h2,h3.monoW g⟩
 |dN kvs=>obtain⟨ent,h1,h2,h3⟩:=r;exact⟨ent,h1.keeps e g.tup,h2,h3.monoW g⟩
theorem ORep.mono(g:Gr U H U' H')(e:H' a=H a)(r:ORep K U H a o):ORep K U' H' a o:=r.monoW g.w e
theorem a1i(e:H p=none)(o:HO):Gr U H U (upd H p o) :=
 ⟨⟨[],by simp,by simp⟩,λa vs h=>by rw[jk (jb h e)];exact h,λa o u h=>by rw[jk (jb h e)];exact h,λa u h _=>by rw[jk (jb h e)];exact h,λa u h=>⟨u,by rw[jk (jb h e)];exact h⟩⟩
theorem HRep.aside(r:HRep K U H h)(e:H p=none)(o:HO):HRep K U (upd H p o) h:=by
 refine⟨r.nd,r.len,λi a o' e1 e2=>?_⟩;have q:=r.obj i a o' e1 e2;obtain⟨u,hu,_⟩:=q.some;exact q.mono (a1i e o) (jk (jb hu e))
theorem acu(e:H p=none)(o:HO):Gr U H (U++[p]) (upd H p o) :=
 ⟨⟨[p],rfl,by simpa using e⟩,(a1i (U:=U) e o).tup,(a1i (U:=U) e o).frz,(a1i (U:=U) e o).oth,(a1i (U:=U) e o).kp⟩
theorem HRep.add(r:HRep K U H h)(e:H p=none)(q:ORep K (U++[p]) (upd H p o) p ob):HRep K (U++[p]) (upd H p o) (h++[ob]):=by
 refine⟨?_,by simp[r.len],λi a o' e1 e2=>?_⟩
 .rw[bC];exact⟨r.nd,by simp,λa ha b hb z=>r.notin e (by rw[aI.mp hb]at z;rw[<-z];exact ha)⟩
 .by_cases hi:i<U.length
  .rw[aU hi]at e1;rw[aU (by rw[<-r.len];exact hi)]at e2
   have q:=r.obj i a o' e1 e2;obtain⟨u,hu,_⟩:=q.some;exact q.mono (acu e o) (jk (jb hu e))
  .have hi2:i<(U++[p]).length:=(ae.mp e1).1;have:i=U.length:=by simp at hi2;omega
   subst this;rw[aK (a8 _)]at e1;rw[r.len,aK (a8 _)]at e2;simp at e1 e2;subst e1 e2;exact q
theorem a5a{i:Nat}(r:HRep K U H h)(e:U[i]? = some a)(o:HO):Gr U H U (upd H a o):=by
 obtain⟨_,_,q⟩:=r.at e;obtain⟨u,hu,n1,n2⟩:=q.some;refine⟨⟨[],by simp,by simp⟩,λb vs hb=>?_,λb o' u' hb=>?_,λb u' hb hn=>?_,λb u' hb=>?_⟩
 .rw[jk (λz=>by subst z;rw[hu]at hb;exact n1 _ (bK hb))];exact hb
 .rw[jk (λz=>by subst z;rw[hu]at hb;exact n2 _ _ (bK hb))];exact hb
 .rw[jk (λz=>hn (by subst z;exact bq e))];exact hb
 .by_cases z:b=a
  .subst z;exact⟨o,oh⟩
  .exact⟨u',by rw[jk z];exact hb⟩
theorem HRep.put(r:HRep K U H h){i:Nat}(e:U[i]? = some a)(q:ORep K U (upd H a o) a ob):HRep K U (upd H a o) (h.set i ob):=by
 refine⟨r.nd,by rw[cY];exact r.len,λj b o' e1 e2=>?_⟩
 by_cases hj:i=j
 .subst hj;rw[e]at e1;cases e1
  have hi:i<h.length:=by rw[<-r.len];exact(ae.mp e).1
  rw[cA hi]at e2;cases e2
  exact q
 .rw[cH hj]at e2;have hne:b≠a:=λz=>by
   subst z;obtain⟨h1,g1⟩:=ae.mp e;obtain⟨h2,g2⟩:=ae.mp e1;have np:=bX.mp r.nd
   rcases Nat.lt_or_gt_of_ne hj with l|l
   .exact np i j h1 h2 l (g1.trans g2.symm)
   .exact np j i h2 h1 l (g2.trans g1.symm)
  exact(r.obj j b o' e1 e2).mono (a5a r e o) (jk hne)
end
structure SRep (K:Fg) (U:List Addr) (H:Hp) (σ:St) (τ:Sd):Prop where
 len:σ.length=τ.length
 val:∀(i:Nat) (d:D),τ[i]? = some (some d)->∃v,σ[i]? = some (some v)/\Rep K U H v d
theorem SRep.mono(g:Gr U H U' H')(s:SRep K U H σ τ):SRep K U' H' σ τ :=
 ⟨s.len,λi d e=>let ⟨v,h1,h2⟩:=s.val i d e; ⟨v,h1,h2.mono g⟩⟩
theorem SRep.set(s:SRep K U H σ τ)(r:Rep K U H v d)(i:Nat):SRep K U H (σ.set i (some v)) (τ.set i (some d)):=by
 refine⟨by simp[s.len],λj d' e=>?_⟩
 by_cases hj:i=j
 .subst hj;have hi:i<τ.length:=by
   have:=(ae.mp e).1
   simpa using this
  rw[cA hi]at e;cases e
  exact⟨v,by rw[cA (by rw[s.len];exact hi)],r⟩
 .rw[cH hj]at e ⊢;exact s.val j d' e
abbrev XD:=Str->List Addr->Hp->Hd->Prop
def out{α β:Type}(K:Fg)(E:XD)(Rp:List Addr->Hp->β->α->Prop)(U:List Addr)(H:Hp)(r:R α)(Q:β->Hp->Prop):Prop :=
 match r with
 |.ok a h=>∀U' H' b,Gr U H U' H'->Rp U' H' b a->HRep K U' H' h->Q b H'
 |.ex c h=>∀U' H',Gr U H U' H'->HRep K U' H' h->E c U' H' h
 |.no=>False
theorem a5n{α β:Type}{K:Fg}{E:XD}{Rp:List Addr->Hp->β->α->Prop}{U U1:List Addr}{H H1:Hp}{r:R α}{Q:β->Hp->Prop}(o:out K E Rp U H r Q)(g:Gr U H U1 H1):out K E Rp U1 H1 r Q:=by
 cases r with
 |ok a h=>exact λU' H' b g'=>o U' H' b (g.trans g')
 |ex c h=>exact λU' H' g'=>o U' H' (g.trans g')
 |no=>exact o
theorem dg{α β γ δ:Type}{K:Fg}{E:XD}{Rp:List Addr->Hp->β->α->Prop}{Sp:List Addr->Hp->δ->γ->Prop}{U:List Addr}{H:Hp}{r:R α}{k:α->Hd->R γ}{Q:δ->Hp->Prop}{P:β->Hp->Prop}
  (o:out K E Sp U H (r.bind k) Q) (hP:∀a h U1 H1 b,Gr U H U1 H1->Rp U1 H1 b a->HRep K U1 H1 h->out K E Sp U1 H1 (k a h) Q->P b H1):out K E Rp U H r P:=by
 cases r with
 |ok a h=>exact λU' H' b g r' hr=>hP a h U' H' b g r' hr (a5n o g)
 |ex c h=>exact o
 |no=>exact o
abbrev v6(K:Fg):List Addr->Hp->V->D->Prop:=λU H v d=>Rep K U H v d
abbrev b16(K:Fg):List Addr->Hp->List V->List D->Prop:=λU H v d=>Reps K U H v d
abbrev ajv:List Addr->Hp->Bool->Bool->Prop:=λ_ _ a b=>a=b
abbrev b17:List Addr->Hp->Option Int->Option Int->Prop:=λ_ _ a b=>a=b
def aiu(K:Fg)(E:XD)(U:List Addr)(H:Hp)(r:Fl)(N:Ends):Prop :=
 match r with
 |.nx τ h=>∀U' H' σ,Gr U H U' H'->SRep K U' H' σ τ->HRep K U' H' h->N.nx σ H'
 |.bk τ h=>∀U' H' σ,Gr U H U' H'->SRep K U' H' σ τ->HRep K U' H' h->N.bk σ H'
 |.ct τ h=>∀U' H' σ,Gr U H U' H'->SRep K U' H' σ τ->HRep K U' H' h->N.ct σ H'
 |.rt d h=>∀U' H' v,Gr U H U' H'->Rep K U' H' v d->HRep K U' H' h->N.rt v H'
 |.ex c h=>∀U' H',Gr U H U' H'->HRep K U' H' h->E c U' H' h
 |.no=>False
theorem u9(o:aiu K E U H r N)(g:Gr U H U1 H1):aiu K E U1 H1 r N:=by
 cases r with
 |nx τ h=>exact λU' H' b g'=>o U' H' b (g.trans g')
 |bk τ h=>exact λU' H' b g'=>o U' H' b (g.trans g')
 |ct τ h=>exact λU' H' b g'=>o U' H' b (g.trans g')
 |rt d h=>exact λU' H' b g'=>o U' H' b (g.trans g')
 |ex c h=>exact λU' H' g'=>o U' H' (g.trans g')
 |no=>exact o
theorem qe{α β:Type}{K:Fg}{E:XD}{Rp:List Addr->Hp->β->α->Prop}{U:List Addr}{H:Hp}{r:R α}{k:α->Hd->Fl}{N:Ends}{P:β->Hp->Prop}
  (o:aiu K E U H (r.fl k) N) (hP:∀a h U1 H1 b,Gr U H U1 H1->Rp U1 H1 b a->HRep K U1 H1 h->aiu K E U1 H1 (k a h) N->P b H1):out K E Rp U H r P:=by
 cases r with
 |ok a h=>exact λU' H' b g r' hr=>hP a h U' H' b g r' hr (u9 o g)
 |ex c h=>exact o
 |no=>exact o
def lift{α β:Type}(K:Fg)(E:XD)(Rp:List Addr->Hp->β->α->Prop)(f:Sd->Hd->R α):St->Hp->(β->Hp->Prop)->Prop:=λσ H Q =>
 ∃U τ h,SRep K U H σ τ/\HRep K U H h/\out K E Rp U H (f τ h) Q
noncomputable def a4k(K:Fg)(E:XD)(f:SS):TS:=λN σ H=>∃U τ h,SRep K U H σ τ/\HRep K U H h/\aiu K E U H (f τ h) N
abbrev ME(X:Cx)(E:XD)(e:Expr)(f:SE):Prop:=PE X e (lift X.K E (v6 X.K) f)
abbrev MT(X:Cx)(E:XD)(e:Expr)(f:ST):Prop:=PT X e (lift X.K E ajv f)
abbrev MW(X:Cx)(E:XD)(e:Expr)(f:ST):Prop:=PW X e (lift X.K E ajv f)
abbrev MA(X:Cx)(E:XD)(es:List Expr)(f:SA):Prop:=PA X es (lift X.K E (b16 X.K) f)
abbrev MS(X:Cx)(E:XD)(st:Stmt)(f:SS):Prop:=PS X st (a4k X.K E f)
abbrev MSs(X:Cx)(E:XD)(st:List Stmt)(f:SS):Prop:=PSs X st (a4k X.K E f)
theorem PE.weak(h:PE X e t)(i:∀σ H Q,t' σ H Q->t σ H Q):PE X e t':=λaA s σ H Q I q=>h aA s σ H Q I (i _ _ _ q)
theorem PT.weak(h:PT X e t)(i:∀σ H Q,t' σ H Q->t σ H Q):PT X e t':=λaA s σ H Q I q=>h aA s σ H Q I (i _ _ _ q)
theorem PW.weak(h:PW X e t)(i:∀σ H Q,t' σ H Q->t σ H Q):PW X e t':=λwh aA s σ H Q I q=>h wh aA s σ H Q I (i _ _ _ q)
theorem PA.weak(h:PA X e t)(i:∀σ H Q,t' σ H Q->t σ H Q):PA X e t':=λpos aA s σ H Q I q=>h pos aA s σ H Q I (i _ _ _ q)
theorem PS.weak(h:PS X e t)(i:∀N σ H,t' N σ H->t N σ H):PS X e t':=λaA s σ H N I q=>h aA s σ H N I (i _ _ _ q)
theorem PSs.weak(h:PSs X e t)(i:∀N σ H,t' N σ H->t N σ H):PSs X e t':=λaA s σ H N I q=>h aA s σ H N I (i _ _ _ q)
abbrev LINE:Nat:=16777216
theorem ll{n:Nat}(h:n<=LINE):n<=sizeLine:=a8a h
noncomputable def sV(i:Nat):SE:=λτ h=>match τ[i]? with|some (some d)=>.ok d h|_=>.no
def sC(d:D):SE:=λ_ h=>.ok d h
abbrev sI(i:Int):SE:=sC (.int i)
section
variable{X:Cx}{E:XD}{a b c e:Expr}{fa fb fc:SE}{pos:Pos}
theorem aem(i:Nat)(hN:X.N[i]? = some x:=by rfl)(hv:Vis X.env.scope x:=by with_unfolding_all first|exact Or.inl rfl|exact Or.inr (Or.inl rfl)|exact Or.inr (Or.inr rfl))(hd:(x == ("__debug__" : Str))=false:=by decide)
  (hcd:(x == ("__classdict__" : Str))=false:=by decide):ME X E (.Name x pos) (sV i):=by
 refine PE.weak (af7 hN hv hd hcd) ?_
 rintro σ H Q ⟨U,τ,h,S,Rh,o⟩
 unfold sV at o
 split at o
 .rename_i d e;obtain⟨v,h1,h2⟩:=S.val i d e;exact⟨v,h1,o U H v (.refl _ _) h2 Rh⟩
 .exact o.elim
theorem arf(h:PE X e (tC v))(r:∀U H,Rep X.K U H v d):ME X E e (sC d) :=
 PE.weak h λσ H Q ⟨U,τ,h,S,Rh,o⟩=>o U H v (.refl _ _) (r U H) Rh
theorem aga{i j pos}:ME X E (.Constant (.int i) j pos) (sC (.int i)):=arf art λ_ _=>.int i
theorem aye{i j pos}:ME X E (.Constant (.bool i) j pos) (sC (.bl i)):=arf axm λ_ _=>.bl i
theorem atd{i j pos}:ME X E (.Constant (.str i) j pos) (sC (.str i)):=arf arv λ_ _=>.str i
theorem agb{j pos}:ME X E (.Constant .none j pos) (sC .non):=arf aru λ_ _=>.non
theorem ajw(hg:Gl X x)(hm:X.mg x=none)(hv:bootBuiltins x=some (.type n))(hn:x ≠ "__name__":=by decide)(hd:(x == ("__debug__" : Str))=false:=by decide):ME X E (.Name x pos) (sC (.ty n)) :=
 arf (aau (v:=.ty n) hg hm hv rfl hn hd) λ_ _=>.ty n
theorem ab9(hg:Gl X x)(hm:X.mg x=some (.int i t))(hd:(x == ("__debug__" : Str))=false:=by decide):ME X E (.Name x pos) (sC (.int i)) :=
 arf (zm (v:=.int i) hg hm ⟨t,rfl⟩ hd) λ_ _=>.int i
noncomputable def s2(g:D->D->Hd->R D)(fa fb:SE):SE:=λτ h=>(fa τ h).bind λx h1=>(fb τ h1).bind λy h2=>g x y h2
noncomputable def s1(g:D->Hd->R D)(fa:SE):SE:=λτ h=>(fa τ h).bind g
def a0j(K:Fg)(g:D->D->Hd->R D)(r:R2):Prop:=∀(E:XD) U H h x y dx dy Q,Rep K U H x dx->Rep K U H y dy->HRep K U H h->out K E (v6 K) U H (g dx dy h) Q->r x y H Q
def b18(K:Fg)(g:D->Hd->R D)(r:V->Hp->VK->Prop):Prop:=∀(E:XD) U H h x dx Q,Rep K U H x dx->HRep K U H h->out K E (v6 K) U H (g dx h) Q->r x H Q
def acv(K:Fg)(g:List D->Hd->R D)(r:List V->Hp->VK->Prop):Prop:=∀(E:XD) U H h xs ds Q,Reps K U H xs ds->HRep K U H h->out K E (v6 K) U H (g ds h) Q->r xs H Q
theorem ax0(hs:a0j K g r)(q:lift K E (v6 K) (s2 g fa fb) σ H Q):tOp r (lift K E (v6 K) fa) (lift K E (v6 K) fb) σ H Q:=by
 obtain⟨U,τ,h,S,Rh,o⟩:=q;refine⟨U,τ,h,S,Rh,dg o λd h1 U1 H1 v g1 r1 hr1 o1=>?_⟩;refine⟨U1,τ,h1,S.mono g1,hr1,dg o1 λd2 h2 U2 H2 u g2 r2 hr2 o2=>?_⟩;exact hs E U2 H2 h2 v u d d2 Q (r1.mono g2) r2 hr2 o2
theorem aen(ho:OpR X (binaryOp op) r)(hs:a0j X.K g r)(ha:ME X E a fa)(hb:ME X E b fb):ME X E (.BinOp a op b pos) (s2 g fa fb) :=
 PE.weak (axy ho ha hb) λσ H Q q=>ax0 hs q
theorem a4l(ho:OpR X (compareOp op) r)(hs:a0j X.K g r)(ha:ME X E a fa)(hb:ME X E b fb)(hm:behindInMarks op b=false):ME X E (.Compare a [op] [b] pos) (s2 g fa fb) :=
 PE.weak (aoh ho ha hb hm) λσ H Q q=>ax0 hs q
theorem ayf(ho:UnR X (unaryOp op) r)(hs:b18 X.K g r)(ha:ME X E a fa):ME X E (.UnaryOp op a pos) (s1 g fa):=by
 refine PE.weak (axz ho ha) ?_
 rintro σ H Q ⟨U,τ,h,S,Rh,o⟩
 exact⟨U,τ,h,S,Rh,dg o λd h1 U1 H1 v g1 r1 hr1 o1=>hs E U1 H1 h1 v d Q r1 hr1 o1⟩
theorem ayg(ho:IxR X r)(hs:a0j X.K g r)(ha:ME X E a fa)(hb:ME X E b fb)(hp:a84 b):ME X E (.Subscript a b pos) (s2 g fa fb) :=
 PE.weak (ay6 ho ha hb hp) λσ H Q q=>ax0 hs q
noncomputable def asB(d:D)(h:Hd):R Bool:=match d with|.bl b=>.ok b h|_=>.no
def sT(f:SE):ST:=λτ h=>(f τ h).bind asB
theorem aba(hi:∀σ H Q,lift K E (v6 K) f σ H Q->t σ H Q)(q:lift K E ajv (sT f) σ H Q):ajc t σ H Q:=by
 refine hi σ H _ ?_;obtain⟨U,τ,h,S,Rh,o⟩:=q;refine⟨U,τ,h,S,Rh,dg o λd h1 U1 H1 v g1 r1 hr1 o1=>?_⟩
 cases r1 with
 |bl b=>exact⟨b,rfl,o1 U1 H1 b (.refl _ _) rfl hr1⟩
 |_=>exact o1.elim
theorem a8b(ho:OpR X (compareOp op) r)(hs:a0j X.K g r)(ha:ME X E a fa)(hb:ME X E b fb)(hm:behindInMarks op b=false):MT X E (.Compare a [op] [b] pos) (sT (s2 g fa fb)) :=
 PT.weak (aoi ho ha hb hm) λσ H Q q=>aba (λ_ _ _=>ax0 hs) q
noncomputable def sCh(g g':D->D->Hd->R D)(fa fb fc:SE):SE:=λτ h=>(fa τ h).bind λx h1=>(fb τ h1).bind λy h2=>(g x y h2).bind λz h3=>match z with
 |.bl true=>(fc τ h3).bind λw h4=>g' y w h4
 |.bl false=>.ok (.bl false) h3
 |_=>.no
theorem amm(hs:a0j K g r)(hs':a0j K g' r')(q:lift K E (v6 K) (sCh g g' fa fb fc) σ H Q) :
  afh r r' (lift K E (v6 K) fa) (lift K E (v6 K) fb) (lift K E (v6 K) fc) σ H Q:=by
 obtain⟨U,τ,h,S,Rh,o⟩:=q;refine⟨U,τ,h,S,Rh,dg o λd h1 U1 H1 v g1 r1 hr1 o1=>?_⟩;refine⟨U1,τ,h1,S.mono g1,hr1,dg o1 λd2 h2 U2 H2 u g2 r2 hr2 o2=>?_⟩;refine hs E U2 H2 h2 v u d d2 _ (r1.mono g2) r2 hr2 (dg o2 λd3 h3 U3 H3 z g3 r3 hr3 o3=>?_)
 cases r3 with
 |bl k =>
  refine⟨k,rfl,?_⟩
  cases k with
  |true =>
   rw[ai rfl];refine⟨U3,τ,h3,((S.mono g1).mono g2).mono g3,hr3,dg o3 λd4 h4 U4 H4 w g4 r4 hr4 o4=>?_⟩;exact hs' E U4 H4 h4 u w d2 d4 Q ((r2.mono g3).mono g4) r4 hr4 o4
  |false =>
   rw[aL aT];exact o3 U3 H3 (.bl false) (.refl _ _) (.bl false) hr3
 |_=>exact o3.elim
theorem ajx(ho:OpR X (compareOp op) r)(ho':OpR X (compareOp op') r')(hs:a0j X.K g r)(hs':a0j X.K g' r')(ha:ME X E a fa)(hb:ME X E b fb)(hc:ME X E c fc)
  (hm:lastMarks [op,op'] [b,c]=false:=by with_unfolding_all rfl):ME X E (.Compare a [op,op'] [b,c] pos) (sCh g g' fa fb fc) :=
 PE.weak (ajd ho ho' ha hb hc hm) λσ H Q q=>amm hs hs' q
theorem acw(ho:OpR X (compareOp op) r)(ho':OpR X (compareOp op') r')(hs:a0j X.K g r)(hs':a0j X.K g' r')(ha:ME X E a fa)(hb:ME X E b fb)(hc:ME X E c fc)
  (hm:lastMarks [op,op'] [b,c]=false:=by with_unfolding_all rfl):MT X E (.Compare a [op,op'] [b,c] pos) (sT (sCh g g' fa fb fc)) :=
 PT.weak (aje ho ho' ha hb hc hm) λσ H Q q=>aba (λ_ _ _=>amm hs hs') q
noncomputable def tru(d:D)(h:Hd):R Bool:=match d with
 |.non=>.ok false h
 |.bl b=>.ok b h
 |.int i=>.ok (i != 0) h
 |.str x=>if x.length<=LINE then .ok ((x.length:Int) != 0) h else .no
 |.tup xs=>.ok (!xs.isEmpty) h
 |.rol xs=>.ok (!xs.isEmpty) h
 |.ref i=>match h[i]? with
  |some (.lst xs)=>.ok (!xs.isEmpty) h
  |some (.dK kvs)=>.ok (!kvs.isEmpty) h
  |_=>.no
 |_=>.no
theorem Reps.emp{K:Fg}{U:List Addr}{H:Hp}{vs:List V}{ds:List D}(r:Reps K U H vs ds):vs.isEmpty=ds.isEmpty:=by cases r<;>rfl
theorem KRep.emp{κ:Type}{K:Fg}{U:List Addr}{H:Hp}{us:List (κ×V)}{kvs:List (κ×D)}(r:KRep K U H us kvs):us.isEmpty=kvs.isEmpty:=by
 have:=ah List.length r.1
 cases us<;>cases kvs<;>simp at this ⊢
theorem aoz{K:Fg}{U:List Addr}{H:Hp}{h:Hd}{x:V}{d:D}{Q:Bool->Hp->Prop}(r:Rep K U H x d)(hr:HRep K U H h)(o:out K E ajv U H (tru d h) Q):∃k,ay2 K x H k/\Q k H:=by
 cases r with
 |non=>exact⟨false,rfl,o U H _ (.refl _ _) rfl hr⟩
 |bl b=>exact⟨b,rfl,o U H _ (.refl _ _) rfl hr⟩
 |int i=>exact⟨_,rfl,o U H _ (.refl _ _) rfl hr⟩
 |str x =>
  by_cases hl:x.length<=LINE
  .simp only[tru,ai hl]at o;exact⟨_,⟨ll hl,rfl⟩,o U H _ (.refl _ _) rfl hr⟩
  .simp only[tru,aL hl]at o;exact o.elim
 |ty n=>exact o.elim
 |rod _ _ _=>exact o.elim
 |scr _ _=>exact o.elim
 |rdT _ _ _=>exact o.elim
 |exc _ _ _=>exact o.elim
 |ins _ _ _ _=>exact o.elim
 |tup e rs=>exact⟨_,.inr (.inl ⟨_,SqT.of e,rfl⟩),by rw[rs.emp];exact o U H _ (.refl _ _) rfl hr⟩
 |rol e rs=>exact⟨_,.inl ⟨_,e.l,rfl⟩,by rw[rs.emp];exact o U H _ (.refl _ _) rfl hr⟩
 |@ref a i e =>
  obtain⟨ob,h1,h2⟩:=hr.at e;simp only[tru,h1]at o
  cases ob with
  |lst xs =>
   obtain⟨vs,h3,h4⟩:=h2;exact⟨_,.inl ⟨_,SqL.of h3,rfl⟩,by rw[h4.emp];exact o U H _ (.refl _ _) rfl hr⟩
  |dK kvs =>
   obtain⟨us,h3,h4⟩:=h2;exact⟨_,.inr (.inr ⟨_,h3,rfl⟩),by rw[h4.emp];exact o U H _ (.refl _ _) rfl hr⟩
  |dT kvs=>exact o.elim
  |ins _ _=>exact o.elim
  |dN _=>exact o.elim
def xu(f:SE):ST:=λτ h=>(f τ h).bind tru
theorem ate(ha:ME X E a fa)(he:∀whole,isTrue a X.env whole=(do let v <-whole;standAt a.pos;holding [v] (truthy v)):=by intro _;rfl):MT X E a (xu fa):=by
 refine PT.weak (ajf ha he) ?_
 rintro σ H Q ⟨U,τ,h,S,Rh,o⟩
 exact⟨U,τ,h,S,Rh,dg o λd h1 U1 H1 v g1 r1 hr1 o1=>aoz r1 hr1 o1⟩
noncomputable def zj(f g:ST):ST:=λτ h=>(f τ h).bind λb h1=>if b=true then g τ h1 else .ok false h1
noncomputable def sOr(f g:ST):ST:=λτ h=>(f τ h).bind λb h1=>if b=true then .ok true h1 else g τ h1
noncomputable def yh(f:ST):ST:=λτ h=>(f τ h).bind λb h1=>.ok (!b) h1
variable{ga gb:ST}
theorem ap0(ha:MT X E a ga):MW X E (.BoolOp .And [a] pos) ga:=ao8 ha
theorem atf(ha:MT X E a ga):MW X E (.BoolOp .Or [a] pos) ga:=arw ha
theorem atg{aG:List Expr}(ha:MT X E a ga)(hb:MW X E (.BoolOp .And (b::aG) pos) gb):MW X E (.BoolOp .And (a::b::aG) pos) (zj ga gb):=by
 refine PW.weak (arx ha hb) ?_
 rintro σ H Q ⟨U,τ,h,S,Rh,o⟩
 refine⟨U,τ,h,S,Rh,dg o λd h1 U1 H1 v g1 r1 hr1 o1=>?_⟩;cases r1
 cases d with
 |true=>exact⟨U1,τ,h1,S.mono g1,hr1,o1⟩
 |false=>exact o1 U1 H1 false (.refl _ _) rfl hr1
theorem ayh{aG:List Expr}(ha:MT X E a ga)(hb:MW X E (.BoolOp .Or (b::aG) pos) gb):MW X E (.BoolOp .Or (a::b::aG) pos) (sOr ga gb):=by
 refine PW.weak (axn ha hb) ?_
 rintro σ H Q ⟨U,τ,h,S,Rh,o⟩
 refine⟨U,τ,h,S,Rh,dg o λd h1 U1 H1 v g1 r1 hr1 o1=>?_⟩;cases r1
 cases d with
 |true=>exact o1 U1 H1 true (.refl _ _) rfl hr1
 |false=>exact⟨U1,τ,h1,S.mono g1,hr1,o1⟩
theorem ath(ha:MT X E a ga):MT X E (.UnaryOp .Not a pos) (yh ga):=by
 refine PT.weak (arz ha) ?_
 rintro σ H Q ⟨U,τ,h,S,Rh,o⟩
 refine⟨U,τ,h,S,Rh,dg o λd h1 U1 H1 v g1 r1 hr1 o1=>?_⟩;cases r1
 exact o1 U1 H1 _ (.refl _ _) rfl hr1
noncomputable def zp(f g:SE):SE:=λτ h=>(f τ h).bind λd h1=>match d with|.bl true=>g τ h1|.bl false=>.ok (.bl false) h1|_=>.no
noncomputable def ax1(f g:SE):SE:=λτ h=>(f τ h).bind λd h1=>match d with|.bl true=>.ok (.bl true) h1|.bl false=>g τ h1|_=>.no
noncomputable def a9u(f:SE):SE:=λτ h=>(f τ h).bind λd h1=>match d with|.bl b=>.ok (.bl (!b)) h1|_=>.no
theorem ati{op}(ha:ME X E a fa):ME X E (.BoolOp op [a] pos) fa:=as3 ha
theorem atj{aG:List Expr}(ha:ME X E a fa)(hb:ME X E (.BoolOp .And (b::aG) pos) fb):ME X E (.BoolOp .And (a::b::aG) pos) (zp fa fb):=by
 refine PE.weak (as4 ha hb) ?_
 rintro σ H Q ⟨U,τ,h,S,Rh,o⟩
 refine⟨U,τ,h,S,Rh,dg o λd h1 U1 H1 v g1 r1 hr1 o1=>?_⟩
 cases r1 with
 |bl k =>
  refine⟨k,rfl,?_⟩
  cases k with
  |true=>exact⟨U1,τ,h1,S.mono g1,hr1,o1⟩
  |false=>exact o1 U1 H1 _ (.refl _ _) (.bl _) hr1
 |_=>exact o1.elim
theorem atk(ha:ME X E a fa):ME X E (.UnaryOp .Not a pos) (a9u fa):=by
 refine PE.weak (as5 ha) ?_
 rintro σ H Q ⟨U,τ,h,S,Rh,o⟩
 refine⟨U,τ,h,S,Rh,dg o λd h1 U1 H1 v g1 r1 hr1 o1=>?_⟩
 cases r1 with
 |bl k=>exact⟨k,rfl,o1 U1 H1 _ (.refl _ _) (.bl _) hr1⟩
 |_=>exact o1.elim
noncomputable def agc(c:ST)(f g:SE):SE:=λτ h=>(c τ h).bind λb h1=>if b=true then f τ h1 else g τ h1
theorem atl(hc:MT X E c ga)(ha:ME X E a fa)(hb:ME X E b fb):ME X E (.IfExp c a b pos) (agc ga fa fb):=by
 refine PE.weak (aj5 hc ha hb) ?_
 rintro σ H Q ⟨U,τ,h,S,Rh,o⟩
 refine⟨U,τ,h,S,Rh,dg o λd h1 U1 H1 v g1 r1 hr1 o1=>?_⟩;cases r1
 cases d with
 |true=>exact⟨U1,τ,h1,S.mono g1,hr1,o1⟩
 |false=>exact⟨U1,τ,h1,S.mono g1,hr1,o1⟩
def aq:SA:=λ_ h=>.ok [] h
noncomputable def aa(f:SE)(g:SA):SA:=λτ h=>(f τ h).bind λd h1=>(g τ h1).bind λds h2=>.ok (d::ds) h2
variable{es:List Expr}{ka:SA}
theorem a6c:MA X E [] aq:=PA.weak a4y λσ H Q ⟨U,τ,h,S,Rh,o⟩=>o U H [] (.refl _ _) .nil Rh
theorem ur(ha:ME X E e fa)(hr:MA X E es ka)(hs:starEach (e::es) X.env=(false,eval e X.env)::starEach es X.env:=by rfl):MA X E (e::es) (aa fa ka):=by
 refine PA.weak (yj ha hr hs) ?_
 rintro σ H Q ⟨U,τ,h,S,Rh,o⟩
 refine⟨U,τ,h,S,Rh,dg o λd h1 U1 H1 v g1 r1 hr1 o1=>?_⟩;refine⟨U1,τ,h1,S.mono g1,hr1,dg o1 λd2 h2 U2 H2 u g2 r2 hr2 o2=>?_⟩;exact o2 U2 H2 _ (.refl _ _) (.cons (r1.mono g2) r2) hr2
noncomputable def jl(ds:List D)(h:Hd):R D:=if ds.length<=LINE then .ok (.tup ds) h else .no
noncomputable def wu(ds:List D)(h:Hd):R D:=if ds.length<=LINE then .ok (.ref h.length) (h++[.lst ds]) else .no
noncomputable def sA(g:List D->Hd->R D)(k:SA):SE:=λτ h=>(k τ h).bind g
theorem a2t(r:Reps K U H vs ds)(hr:HRep K U H h)(o:out K E (v6 K) U H (.ok (.tup ds) h) Q):∀p,H p=none->Q (.ref p) (upd H p (.tup vs)):=λp hp =>
 o U _ _ (a1i hp _) (.tup oh (r.mono (a1i hp _))) (hr.aside hp _)
theorem ym(r:Reps K U H vs ds)(hr:HRep K U H h)(o:out K E (v6 K) U H (.ok (.ref h.length) (h++[.lst ds])) Q):∀p,H p=none->Q (.ref p) (upd H p (.lst vs)):=λp hp =>
 o (U++[p]) _ _ (acu hp _) (.ref (by rw[aK (by rw[hr.len];exact a8 _),hr.len];simp)) (hr.add hp ⟨_,oh,r.mono (acu hp _)⟩)
theorem a6d{K:Fg}{U:List Addr}{H:Hp}{h:Hd}{i:Nat}{a:Addr}{vs:List V}{ds:List D}{d:D}{v:V}{Q:VK}(r:Reps K U H vs ds)(hr:HRep K U H h)(hi:U[i]? = some a)(rd:Rep K U H v d)(o:out K E (v6 K) U H (.ok d (h.set i (.lst ds))) Q):Q v (upd H a (.lst vs)) :=
 o U _ _ (a5a hr hi _) (rd.mono (a5a hr hi _)) (hr.put hi ⟨_,oh,r.mono (a5a hr hi _)⟩)
theorem acx{x1}(h:MA X E es ka):ME X E (.Tuple es x1 pos) (sA jl ka):=by
 refine PE.weak (amc h) ?_
 rintro σ H Q ⟨U,τ,h,S,Rh,o⟩
 refine⟨U,τ,h,S,Rh,dg o λd h1 U1 H1 v g1 r1 hr1 o1=>?_⟩;unfold jl at o1
 split at o1
 .rename_i hl;exact⟨ll (by rw[r1.len];exact hl),a2t r1 hr1 o1⟩
 .exact o1.elim
theorem atm(h:MA X E es ka):ME X E (.List es pos) (sA wu ka):=by
 refine PE.weak (asp h) ?_
 rintro σ H Q ⟨U,τ,h,S,Rh,o⟩
 refine⟨U,τ,h,S,Rh,dg o λd h1 U1 H1 v g1 r1 hr1 o1=>?_⟩;unfold wu at o1
 split at o1
 .rename_i hl;exact⟨ll (by rw[r1.len];exact hl),ym r1 hr1 o1⟩
 .exact o1.elim
theorem a9v{x:Str}{p:Pos}{id:String}{r:List V->Hp->VK->Prop}{g:List D->Hd->R D}(hc:CallR X (.builtin id) r)(hs:acv X.K g r)(hg:Gl X x)(hm:X.mg x=none)(hv:bootBuiltins x=some (.builtin id))(ha:MA X E (e::es) ka)(hn:x ≠ "__name__":=by decide)(hdb:(x == ("__debug__" : Str))=false:=by decide)
  (he:starEach (e::es) X.env=(false,eval e X.env)::starEach es X.env:=by rfl) (hpl:(backTo pos (starEach es X.env)).any (·.1)=false:=by rfl):ME X E (.Call (.Name x p) (e::es) [] pos) (sA g ka):=by
 refine PE.weak (a3g hc hg hm hv ha hn hdb he hpl) ?_
 rintro σ H Q ⟨U,τ,h,S,Rh,o⟩
 exact⟨U,τ,h,S,Rh,dg o λd h1 U1 H1 v g1 r1 hr1 o1=>hs E U1 H1 h1 v d Q r1 hr1 o1⟩
theorem abb{x:Str}{p:Pos}{id:String}{r:List V->Hp->VK->Prop}{g:List D->Hd->R D}(hc:CallR X (.type id) r)(hs:acv X.K g r)(hg:Gl X x)(hm:X.mg x=none)(hv:bootBuiltins x=some (.type id))(ha:MA X E (e::es) ka)(hn:x ≠ "__name__":=by decide)(hdb:(x == ("__debug__" : Str))=false:=by decide)
  (he:starEach (e::es) X.env=(false,eval e X.env)::starEach es X.env:=by rfl) (hpl:(backTo pos (starEach es X.env)).any (·.1)=false:=by rfl):ME X E (.Call (.Name x p) (e::es) [] pos) (sA g ka):=by
 refine PE.weak (a9d hc hg hm hv ha hn hdb he hpl) ?_
 rintro σ H Q ⟨U,τ,h,S,Rh,o⟩
 exact⟨U,τ,h,S,Rh,dg o λd h1 U1 H1 v g1 r1 hr1 o1=>hs E U1 H1 h1 v d Q r1 hr1 o1⟩
end
noncomputable def gj(f g:SS):SS:=λτ h=>match f τ h with|.nx τ1 h1=>g τ1 h1|r=>r
def sNx:SS:=λτ h=>.nx τ h
noncomputable def ju(f:SE):SS:=λτ h=>(f τ h).fl λd h1=>.rt d h1
noncomputable def a1j(f:SE):SS:=λτ h=>(f τ h).fl λ_ h1=>.nx τ h1
noncomputable def sIf(c:ST)(f g:SS):SS:=λτ h=>(c τ h).fl λb h1=>if b=true then f τ h1 else g τ h1
noncomputable def jm(i:Nat)(f:SE):SS:=λτ h=>(f τ h).fl λd h1=>.nx (τ.set i (some d)) h1
noncomputable def acy(i:Nat)(g:D->D->Hd->R D)(f:SE):SS:=λτ h=>match τ[i]? with
 |some (some x)=>(f τ h).fl λy h1=>(g x y h1).fl λz h2=>.nx (τ.set i (some z)) h2
 |_=>.no
section
variable{X:Cx}{E:XD}{e o:Expr}{es:List Expr}{fa fb fc:SE}{ga:ST}{st:Stmt}{sts a b:List Stmt}{f g:SS}{pos:Pos}
theorem ap1:MSs X E [] sNx:=PSs.weak ao9 λN σ H ⟨U,τ,h,S,Rh,o⟩=>o U H σ (.refl _ _) S Rh
theorem atn(q:a4k K E (gj f g) N σ H):a4k K E f {N with nx:=a4k K E g N} σ H:=by
 obtain⟨U,τ,h,S,Rh,o⟩:=q;refine⟨U,τ,h,S,Rh,?_⟩;unfold gj at o
 cases hf:f τ h with
 |nx τ1 h1 =>
  rw[hf]at o;exact λU1 H1 σ1 g1 S1 R1=>⟨U1,τ1,h1,S1,R1,u9 o g1⟩
 |_=>rw[hf]at o;exact o
theorem a2e(h1:MS X E st f)(h2:MSs X E sts g):MSs X E (st::sts) (gj f g):=PSs.weak (aj6 h1 h2) λN σ H q=>atn q
theorem a8c(h1:MS X E st f):MSs X E [st] f:=aoa h1
theorem amn(he:ME X E e fa):MS X E (.Return (some e) pos) (ju fa):=by
 refine PS.weak (as6 he) ?_
 rintro N σ H ⟨U,τ,h,S,Rh,o⟩
 exact⟨U,τ,h,S,Rh,qe o λd h1 U1 H1 v g1 r1 hr1 o1=>o1 U1 H1 v (.refl _ _) r1 hr1⟩
theorem ap2(he:ME X E e fa)(hs:swapsWith e none pos.line X.env=pure false:=by rfl):MS X E (.Expr e pos) (a1j fa):=by
 refine PS.weak (aob he hs) ?_
 rintro N σ H ⟨U,τ,h,S,Rh,o⟩
 exact⟨U,τ,h,S,Rh,qe o λd h1 U1 H1 v g1 r1 hr1 o1=>o1 U1 H1 σ (.refl _ _) (S.mono g1) hr1⟩
theorem ayi(hc:MT X E c ga)(ha:MSs X E a f)(hb:MSs X E b g):MS X E (.If c a b pos) (sIf ga f g):=by
 refine PS.weak (axs hc ha hb) ?_
 rintro N σ H ⟨U,τ,h,S,Rh,o⟩
 refine⟨U,τ,h,S,Rh,qe o λd h1 U1 H1 v g1 r1 hr1 o1=>?_⟩;cases r1
 cases d with
 |true=>exact⟨U1,τ,h1,S.mono g1,hr1,o1⟩
 |false=>exact⟨U1,τ,h1,S.mono g1,hr1,o1⟩
theorem ato(hN:X.N.Nodup)(hi:X.N[i]? = some x)(hx:Loc X.env.scope x)(he:ME X E e fa)(hs:swapsWith e (some (.Name x pos')) pos.line X.env=pure false:=by rfl)(hf:Hf X x:=by with_unfolding_all first|exact .inl rfl|exact .inr rfl|assumption) :
  MS X E (.Assign [.Name x pos'] e pos) (jm i fa):=by
 refine PS.weak (as9 hN hi hx he hs hf) ?_
 rintro N σ H ⟨U,τ,h,S,Rh,o⟩
 exact⟨U,τ,h,S,Rh,qe o λd h1 U1 H1 v g1 r1 hr1 o1=>o1 U1 H1 _ (.refl _ _) ((S.mono g1).set r1 i) hr1⟩
theorem amo(hN:X.N.Nodup)(hi:X.N[i]? = some x)(hx:Loc X.env.scope x)(ho:OpR X (inplaceOp op) r)(hs:a0j X.K gg r)(he:ME X E e fa)(hf:Hf X x:=by with_unfolding_all first|exact .inl rfl|exact .inr rfl|assumption) :
  MS X E (.AugAssign (.Name x pos') op e pos) (acy i gg fa):=by
 refine PS.weak (asa hN hi hx he ho hf) ?_
 rintro N σ H ⟨U,τ,h,S,Rh,o⟩
 unfold acy at o
 split at o
 .rename_i d ed;obtain⟨v,h1,h2⟩:=S.val i d ed;refine⟨v,h1,U,τ,h,S,Rh,qe o λd2 h3 U1 H1 u g1 r1 hr1 o1=>?_⟩;refine hs E U1 H1 h3 v u d d2 _ (h2.mono g1) r1 hr1 (qe o1 λd3 h4 U2 H2 z g2 r2 hr2 o2=>?_);exact o2 U2 H2 _ (.refl _ _) (((S.mono g1).mono g2).set r2 i) hr2
 .exact o.elim
noncomputable def put(o k v:D)(h:Hd):Option Hd:=match o,k with
 |.ref i,.int j=>match h[i]? with
  |some (.lst xs)=>match ixN xs.length j with
   |some m=>some (h.set i (.lst (xs.set m v)))
   |none=>none
  |_=>none
 |_,_=>none
theorem agd{K:Fg}{U:List Addr}{H:Hp}{h h':Hd}{o k v:V}{od kd vd:D}{Q:Hp->Prop}(r1:Rep K U H o od)(r2:Rep K U H k kd)(r3:Rep K U H v vd)(hr:HRep K U H h)(e:put od kd vd h=some h')
  (q:∀H',Gr U H U H'->HRep K U H' h'->Q H'):asx o k v H Q:=by
 cases r1 with
 |@ref a i ha =>
  cases r2 with
  |int j =>
   obtain⟨ob,h1,h2⟩:=hr.at ha
   cases ob with
   |lst xs =>
    obtain⟨vs,h3,h4⟩:=h2;simp only[put,h1]at e
    cases hm:ixN xs.length j with
    |none=>rw[hm]at e;cases e
    |some m =>
     rw[hm]at e;cases e
     exact⟨a,vs,j,m,rfl,rfl,h3,by rw[h4.len];exact hm,q _ (a5a hr ha _) (hr.put ha ⟨_,oh,(h4.set r3 m).mono (a5a hr ha _)⟩)⟩
   |dK _=>simp only[put,h1]at e;cases e
   |dT _=>simp only[put,h1]at e;cases e
   |ins _ _=>simp only[put,h1]at e;cases e
   |dN _=>simp only[put,h1]at e;cases e
  |_=>cases e
 |_=>cases e
noncomputable def aeo(fe fo fi:SE):SS:=λτ h=>(fe τ h).fl λv h1=>(fo τ h1).fl λo h2=>(fi τ h2).fl λk h3=>match put o k v h3 with|some h4=>.nx τ h4|none=>.no
theorem atp(he:ME X E e fa)(ho:ME X E o fb)(hi:ME X E i fc)
  (hs:swapsWithSole [.Subscript o i pos'] e pos.line X.env=pure false:=by rfl) (hw:swappedStores [.Subscript o i pos'] e X.env=pure none:=by rfl)
  (h1:(assignEach [.Subscript o i pos'] X.env).map (·.2)=[assign (.Subscript o i pos') X.env]:=by rfl)
  (ha:∀v,assign (.Subscript o i pos') X.env v=(do
   let ov <-holding [v] (eval o X.env)
   let iv <-holding [v,ov] (eval i X.env)
   standAt pos'
   holding [v,ov,iv] (setItem ov iv v)
   release [v,ov,iv] []):=by intro _;rfl):MS X E (.Assign [.Subscript o i pos'] e pos) (aeo fa fb fc):=by
 refine PS.weak (af9 he (as8 ho hi set_list ha) hs hw h1) ?_
 rintro N σ H ⟨U,τ,h,S,Rh,oo⟩
 refine⟨U,τ,h,S,Rh,qe oo λd h1 U1 H1 v g1 r1 hr1 o1=>?_⟩;refine⟨U1,τ,h1,S.mono g1,hr1,qe o1 λd2 h2 U2 H2 u g2 r2 hr2 o2=>?_⟩;refine⟨U2,τ,h2,(S.mono g1).mono g2,hr2,qe o2 λd3 h3 U3 H3 w g3 r3 hr3 o3=>?_⟩
 cases hp:put d2 d3 d h3 with
 |none=>rw[hp]at o3;exact o3.elim
 |some h4 =>
  rw[hp]at o3;exact agd (r2.mono g3) r3 ((r1.mono g2).mono g3) hr3 hp λH' g4 hr4=>o3 U3 H' σ g4 ((((S.mono g1).mono g2).mono g3).mono g4) hr4
noncomputable def sWh(c:ST)(f:SS):Nat->SS
 |0,_,_=>.no
 |n+1,τ,h=>(c τ h).fl λb h1=>if b=true then (match f τ h1 with|.nx τ2 h2=>sWh c f n τ2 h2|.ct τ2 h2=>sWh c f n τ2 h2|.bk τ2 h2=>.nx τ2 h2|r=>r) else .nx τ h1
theorem ajy(n:Nat)(hp:PassesOwn (model X.prog X.w) X.A X.env X.xe)(hc:MT X E c ga)(hb:MSs X E a f):MS X E (.While c a [] pos) (sWh ga f n):=by
 refine PS.weak (aj8 hp hc hb) λN σ H q=>?_;refine⟨λm σ H=>a4k X.K E (sWh ga f m) N σ H,⟨n,q⟩,?_⟩
 rintro m σ1 H1 ⟨U,τ,h,S,Rh,o⟩
 cases m with
 |zero=>exact o.elim
 |succ m =>
  refine⟨U,τ,h,S,Rh,qe o λd h1 U1 H1 v g1 r1 hr1 o1=>?_⟩;cases r1
  cases d with
  |false=>exact o1 U1 H1 _ (.refl _ _) (S.mono g1) hr1
  |true =>
   refine⟨λσ' H'=>a4k X.K E (sWh ga f m) N σ' H',λσ' H' q=>⟨m,Nat.lt_succ_self m,q⟩,U1,τ,h1,S.mono g1,hr1,?_⟩;rw[ai rfl]at o1
   cases hf:f τ h1 with
   |nx τ2 h2=>rw[hf]at o1;exact λU2 H2 σ2 g2 S2 R2=>⟨U2,τ2,h2,S2,R2,u9 o1 g2⟩
   |ct τ2 h2=>rw[hf]at o1;exact λU2 H2 σ2 g2 S2 R2=>⟨U2,τ2,h2,S2,R2,u9 o1 g2⟩
   |bk τ2 h2=>rw[hf]at o1;exact o1
   |rt d h2=>rw[hf]at o1;exact o1
   |ex c h2=>rw[hf]at o1;exact o1
   |no=>rw[hf]at o1;exact o1.elim
end
abbrev SG:=D->Sd->Hd->Fl
noncomputable def ap3(K:Fg)(E:XD)(g:SG):TG:=λv σ H Q=>∃U τ h d,Rep K U H v d/\SRep K U H σ τ/\HRep K U H h/\aiu K E U H (g d τ h) {nx:=Q,rt:=λ_ _=>False}
abbrev MG(X:Cx)(E:XD)(tg:Expr)(g:SG):Prop:=PG X tg (ap3 X.K E g)
abbrev SGs:=List D->Sd->Hd->Fl
noncomputable def age(K:Fg)(E:XD)(g:SGs):TGs:=λvs σ H Q=>∃U τ h ds,Reps K U H vs ds/\SRep K U H σ τ/\HRep K U H h/\aiu K E U H (g ds τ h) {nx:=Q,rt:=λ_ _=>False}
abbrev MGs(X:Cx)(E:XD)(tg:List Expr)(g:SGs):Prop:=PGs X tg (age X.K E g)
theorem PG.weak(h:PG X e t)(i:∀v σ H Q,t' v σ H Q->t v σ H Q):PG X e t':=λaA s σ H v u Q I r q=>h aA s σ H v u Q I r (i _ _ _ _ q)
theorem PGs.weak(h:PGs X e t)(i:∀v σ H Q,t' v σ H Q->t v σ H Q):PGs X e t':=λaA s σ H v u Q I r q=>h aA s σ H v u Q I r (i _ _ _ _ q)
noncomputable def kN(i:Nat):SG:=λd τ h=>.nx (τ.set i (some d)) h
noncomputable def amq:SGs:=λds τ h=>match ds with|[]=>.nx τ h|_=>.no
noncomputable def a4m(g:SG)(k:SGs):SGs:=λds τ h=>match ds with|d::r=>(match g d τ h with|.nx τ1 h1=>k r τ1 h1|_=>.no)|[]=>.no
noncomputable def ajz(n:Nat)(k:SGs):SG:=λd τ h=>match d with|.tup ds=>if ds.length=n then k ds τ h else .no|_=>.no
section
variable{X:Cx}{E:XD}{e:Expr}{es:List Expr}{fa:SE}{pos:Pos}{g:SG}{ks:SGs}
theorem agf(hN:X.N.Nodup)(hi:X.N[i]? = some x)(hx:Loc X.env.scope x)(hf:Hf X x:=by with_unfolding_all first|exact .inl rfl|exact .inr rfl|assumption):MG X E (.Name x pos) (kN i) :=
 PG.weak (aav hN hi hx hf) λv σ H Q ⟨U,τ,h,d,r,S,Rh,o⟩=>o U H _ (.refl _ _) (S.set r i) Rh
theorem ap4:MGs X E [] amq:=by
 refine PGs.weak aaw ?_
 rintro vs σ H Q ⟨U,τ,h,ds,r,S,Rh,o⟩
 cases r with
 |nil=>exact⟨rfl,o U H σ (.refl _ _) S Rh⟩
 |cons _ _=>exact o.elim
theorem ak0(q:age K E (a4m g ks) vs σ H Q):aj7 (ap3 K E g) (age K E ks) vs σ H Q:=by
 obtain⟨U,τ,h,ds,r,S,Rh,o⟩:=q
 cases r with
 |nil=>exact o.elim
 |@cons v d vs ds r rs =>
  refine⟨v,vs,rfl,U,τ,h,d,r,S,Rh,?_⟩;simp only[a4m]at o
  cases hg:g d τ h with
  |nx τ1 h1 =>
   rw[hg]at o;exact λU1 H1 σ1 g1 S1 R1=>⟨U1,τ1,h1,ds,rs.mono g1,S1,R1,u9 o g1⟩
  |_=>rw[hg]at o;exact o.elim
theorem atq(hc:X.calm=true)(h:MGs X E es ks)(hn:(assignEach es X.env).length=n:=by rfl)(hst:(assignEach es X.env).findIdx? (·.1)=none:=by rfl):MG X E (.Tuple es k pos) (ajz n ks):=by
 refine PG.weak (af8 hc h hn hst) ?_
 rintro v σ H Q ⟨U,τ,h,d,r,S,Rh,o⟩
 cases r with
 |@tup a vs xs e rs =>
  simp only[ajz]at o
  by_cases hl:xs.length=n
  .rw[ai hl]at o;exact⟨a,vs,rfl,SqT.of e,by rw[rs.len];exact hl,U,τ,h,xs,rs,S,Rh,o⟩
  .rw[aL hl]at o;exact o.elim
 |_=>exact o.elim
noncomputable def aiv(f:SE)(g:SG):SS:=λτ h=>(f τ h).fl λd h1=>match g d τ h1 with|.nx τ2 h2=>.nx τ2 h2|_=>.no
theorem atr(he:ME X E e fa)(hg:MG X E tg g)(hs:swapsWithSole [tg] e pos.line X.env=pure false:=by rfl)(hw:swappedStores [tg] e X.env=pure none:=by rfl)
  (h1:(assignEach [tg] X.env).map (·.2)=[assign tg X.env]:=by rfl):MS X E (.Assign [tg] e pos) (aiv fa g):=by
 refine PS.weak (af9 he hg hs hw h1) ?_
 rintro N σ H ⟨U,τ,h,S,Rh,o⟩
 refine⟨U,τ,h,S,Rh,qe o λd h1 U1 H1 v g1 r1 hr1 o1=>⟨U1,τ,h1,d,r1,S.mono g1,hr1,?_⟩⟩
 cases hg:g d τ h1 with
 |nx τ1 h1=>rw[hg]at o1;exact o1
 |_=>rw[hg]at o1;exact o1.elim
end
structure Itm where
 xs:List D
 ck:Hd->Prop
def ap5(K:Fg)(U0:List Addr)(H0:Hp)(J:It)(it:Itm):Prop:=∀U H h,Gr U0 H0 U H->HRep K U H h->it.ck h->
 (∀(i:Nat) (d:D),it.xs[i]? = some d->J.go i H/\∀x H',J.yld i H x H'->Gr U H U H'/\Rep K U H' x d/\HRep K U H' h)/\J.stop it.xs.length H
abbrev ayj(K:Fg):List Addr->Hp->It->Itm->Prop:=λU H J it=>ap5 K U H J it
abbrev SI:=Sd->Hd->R Itm
abbrev MI(X:Cx)(E:XD)(tg aF:Expr)(f:SI):Prop:=PI X tg aF (lift X.K E (ayj X.K) f)
noncomputable def a0k(x:Str):List D:=x.cps.toList.map λc=>D.str ⟨#[c]⟩
noncomputable def aiw(d:D)(h:Hd):R Itm:=match d with
 |.tup xs=>.ok ⟨xs,λ_=>True⟩ h
 |.rol xs=>.ok ⟨xs,λ_=>True⟩ h
 |.str x=>.ok ⟨a0k x,λ_=>True⟩ h
 |.ref i=>match h[i]? with
  |some (.lst xs)=>.ok ⟨xs,λh=>h[i]? = some (.lst xs)⟩ h
  |_=>.no
 |_=>.no
def sIt(f:SE):SI:=λτ h=>(f τ h).bind aiw
theorem amr(hl:∀U H h,Gr U0 H0 U H->HRep K U H h->ck h->∃vs,SqL K H a vs/\Reps K U H vs xs):ap5 K U0 H0 (Itl K a) ⟨xs,ck⟩:=by
 intro U H h g hr c
 obtain⟨vs,h1,h2⟩:=hl U H h g hr c;refine⟨λi d e=>?_,⟨vs,h1,by rw[h2.len];exact a8 _⟩⟩
 obtain⟨v,e1,r⟩:=h2.get e;refine⟨⟨vs,v,h1,e1⟩,λx H' y=>?_⟩;obtain⟨rfl,y⟩:=y;have:=y vs h1;rw[e1]at this;cases this
 exact⟨.refl _ _,r,hr⟩
theorem atu(hl:ME X E l f):MI X E tg l (sIt f):=by
 rintro aA s σ H Rr I ⟨U,τ,h,S,Rh,o⟩
 unfold sIt at o
 cases hf:f τ h with
 |no=>rw[hf]at o;exact o.elim
 |ex c h1 =>
  rw[hf]at o;exact ami hl aA s σ H Rr I ⟨U,τ,h,S,Rh,by rw[hf];exact o⟩
 |ok d h1 =>
  rw[hf]at o
  cases d with
  |tup xs =>
   refine asd hl aA s σ H Rr I ⟨U,τ,h,S,Rh,?_⟩;rw[hf]
   intro U1 H1 v g1 r1 hr1
   cases r1 with
   |@tup a vs _ e rs =>
    refine⟨a,rfl,⟨vs,SqT.of e⟩,o U1 H1 _ g1 ?_ hr1⟩
    intro U2 H2 h2 g2 hr2 _
    have e2:=g2.tup _ _ e;have rs2:=rs.mono g2;refine⟨λi d ed=>?_,⟨vs,SqT.of e2,by rw[rs2.len];exact a8 _⟩⟩
    obtain⟨v,e1,r⟩:=rs2.get ed;refine⟨⟨vs,v,SqT.of e2,e1⟩,λx H' y=>?_⟩;obtain⟨rfl,y⟩:=y;have:=y vs (SqT.of e2);rw[e1]at this;cases this
    exact⟨.refl _ _,r,hr2⟩
  |rol xs =>
   refine afb hl aA s σ H Rr I ⟨U,τ,h,S,Rh,?_⟩;rw[hf]
   intro U1 H1 v g1 r1 hr1
   cases r1 with
   |@rol a vs _ e rs =>
    refine⟨a,rfl,⟨vs,e.l⟩,o U1 H1 _ g1 ?_ hr1⟩;exact amr (λU2 H2 h2 g2 hr2 _=>⟨vs,(e.mono g2).l,rs.mono g2⟩)
  |str x =>
   refine ami hl aA s σ H Rr I ⟨U,τ,h,S,Rh,?_⟩;rw[hf]
   intro U1 H1 v g1 r1 hr1
   cases r1
   refine⟨x,rfl,o U1 H1 _ g1 ?_ hr1⟩
   intro U2 H2 h2 g2 hr2 _
   refine⟨λi d ed=>?_,by show(a0k x).length=_;simp[a0k]⟩
   simp only[a0k,bV,aQ]at ed;obtain⟨c,ec,rfl⟩:=ed;refine⟨by show i<x.cps.size;have:=(ae.mp ec).1;simpa using this,λy H' q=>?_⟩
   obtain⟨rfl,c',ec',rfl⟩:=q;rw[ec]at ec';cases ec'
   exact⟨.refl _ _,.str _,hr2⟩
  |ref i =>
   simp only[R.bind,aiw]at o
   cases ho:h1[i]? with
   |none=>rw[ho]at o;exact o.elim
   |some ob =>
    rw[ho]at o
    cases ob with
    |dK _=>exact o.elim
    |dT _=>exact o.elim
    |ins _ _=>exact o.elim
    |dN _=>exact o.elim
    |lst xs =>
     refine afb hl aA s σ H Rr I ⟨U,τ,h,S,Rh,?_⟩;rw[hf]
     intro U1 H1 v g1 r1 hr1
     cases r1 with
     |@ref a _ e =>
      obtain⟨vs,e1,rs⟩:=hr1.obj i a _ e ho;refine⟨a,rfl,⟨vs,SqL.of e1⟩,o U1 H1 _ g1 ?_ hr1⟩;refine amr (λU2 H2 h2 g2 hr2 c=>?_);obtain⟨us,e3,rs3⟩:=hr2.obj i a _ (g2.at e) c;exact⟨us,SqL.of e3,rs3⟩
  |_=>exact o.elim
noncomputable def rng(lo:Int)(n:Nat):List D:=(List.range n).map λi=>D.int (lo+(i:Nat))
def B62(j:Int):Prop := -(2^62)<=j/\j<2^62
instance (j:Int):Decidable (B62 j):=by unfold B62;exact inferInstance
noncomputable def a0l(ds:List D)(h:Hd):R Itm:=match ds with
 |[.int j]=>if B62 j then .ok ⟨rng 0 j.toNat,λ_=>True⟩ h else .no
 |_=>.no
noncomputable def atv(ds:List D)(h:Hd):R Itm:=match ds with
 |[.int i,.int j]=>if B62 i/\B62 j then .ok ⟨rng i (j-i).toNat,λ_=>True⟩ h else .no
 |_=>.no
noncomputable def sRg(g:List D->Hd->R Itm)(k:SA):SI:=λτ h=>(k τ h).bind g
theorem atw(lo:Int)(n:Nat):ap5 K U0 H0 (Itr lo n) ⟨rng lo n,λ_=>True⟩:=by
 intro U H h g hr _
 refine⟨λi d ed=>?_,by show n<=(rng lo n).length;simp[rng]⟩
 simp only[rng,bV,aQ]at ed;obtain⟨j,ej,rfl⟩:=ed;obtain⟨hj,e⟩:=ae.mp ej;simp at e hj;subst e;refine⟨hj,λy H' q=>?_⟩;obtain⟨rfl,rfl⟩:=q;exact⟨.refl _ _,.int _,hr⟩
theorem ap6(hg:Gl X "range")(hm:X.mg "range" = none)(ha:MA X E [a] k)(hs:starEach [a] X.env=[(false,eval a X.env)]:=by rfl):MI X E tg (.Call (.Name "range" p) [a] [] pos) (sRg a0l k):=by
 rintro aA s σ H Rr I ⟨U,τ,h,S,Rh,o⟩
 refine afc hg hm ha hs aA s σ H Rr I ⟨U,τ,h,S,Rh,dg o λds h1 U1 H1 vs g1 r1 hr1 o1=>?_⟩;unfold a0l at o1
 split at o1
 .rename_i j
  cases r1 with
  |cons r rs =>
   cases r;cases rs
   by_cases hb:B62 j
   .rw[ai hb]at o1;exact⟨j,rfl,hb.1,hb.2,o1 U1 H1 _ (.refl _ _) (atw 0 j.toNat) hr1⟩
   .rw[aL hb]at o1;exact o1.elim
 .exact o1.elim
open Classical in
def forL(ck:Hd->Prop)(g:SG)(b:SS):List D->Sd->Hd->Fl
 |[],τ,h=>if ck h then .nx τ h else .no
 | x::xs,τ,h=>if ck h then (match g x τ h with
   |.nx τ1 h1=>(match b τ1 h1 with
    |.nx τ2 h2=>forL ck g b xs τ2 h2
    |.ct τ2 h2=>forL ck g b xs τ2 h2
    |.bk τ2 h2=>.nx τ2 h2
    |r=>r)
   |_=>.no) else .no
def a9w(f:SI)(g:SG)(b:SS):SS:=λτ h=>(f τ h).fl λit h1=>forL it.ck g b it.xs τ h1
theorem ap7(ir:ap5 K U0 H0 J it)(S:SRep K U0 H0 σ0 τ0)(Rh:HRep K U0 H0 h0)(o:aiu K E U0 H0 (forL it.ck g b it.xs τ0 h0) N) :
  ∃W:Nat->Nat->St->Hp->Prop,(∃m,W 0 m σ0 H0)/\∀i m σ H,W i m σ H->
   (J.stop i H/\N.nx σ H)\/(J.go i H/\∃M:St->Hp->Prop,(∀σ' H',M σ' H'->∃m',m'<m/\W (i+1) m' σ' H')/\∀x H',J.yld i H x H'->ap3 K E g x σ H' λσ2 H2=>a4k K E b {N with nx:=M,ct:=M,bk:=N.nx} σ2 H2):=by
 refine⟨λi m σ H=>m=it.xs.length-i/\i<=it.xs.length/\∃U τ h,Gr U0 H0 U H/\SRep K U H σ τ/\HRep K U H h/\aiu K E U H (forL it.ck g b (it.xs.drop i) τ h) N,⟨_,rfl,bE _,U0,τ0,h0,.refl _ _,S,Rh,o⟩,?_⟩
 rintro i m σ H ⟨rfl,hi,U,τ,h,g0,S,Rh,o⟩
 by_cases hlt:i<it.xs.length
 .rw[cJ hlt,forL]at o
  by_cases hc:it.ck h
  .rw[ai hc]at o;obtain⟨go,yl⟩:=(ir U H h g0 Rh hc).1 i _ (a6 hlt);refine .inr ⟨go,λσ' H'=>it.xs.length-(i+1)<it.xs.length-i/\∃U τ h,Gr U0 H0 U H'/\SRep K U H' σ' τ/\HRep K U H' h/\aiu K E U H' (forL it.ck g b (it.xs.drop (i+1)) τ h) N,λσ' H' q=>⟨_,q.1,rfl,hlt,q.2⟩,λx H' y=>?_⟩;obtain⟨g1,r1,hr1⟩:=yl x H' y;refine⟨U,τ,h,_,r1,S.mono g1,hr1,?_⟩;have o':=u9 o g1
   cases hg:g it.xs[i] τ h with
   |nx τ1 h1 =>
    rw[hg]at o';dsimp only at o'
    intro U2 H2 σ2 g2 S2 R2
    refine⟨U2,τ1,h1,S2,R2,?_⟩;have o2:=u9 o' g2;have gg:=(g0.trans g1).trans g2
    cases hb:b τ1 h1 with
    |nx τ2 h2=>rw[hb]at o2;exact λU3 H3 σ3 g3 S3 R3=>⟨by omega,U3,τ2,h2,gg.trans g3,S3,R3,u9 o2 g3⟩
    |ct τ2 h2=>rw[hb]at o2;exact λU3 H3 σ3 g3 S3 R3=>⟨by omega,U3,τ2,h2,gg.trans g3,S3,R3,u9 o2 g3⟩
    |bk τ2 h2=>rw[hb]at o2;exact o2
    |rt d h2=>rw[hb]at o2;exact o2
    |ex c h2=>rw[hb]at o2;exact o2
    |no=>rw[hb]at o2;exact o2.elim
   |_=>rw[hg]at o';exact o'.elim
  .rw[aL hc]at o;exact o.elim
 .have e:i=it.xs.length:=by omega
  subst e;rw[cB (a8 _),forL]at o
  by_cases hc:it.ck h
  .rw[ai hc]at o;exact .inl ⟨(ir U H h g0 Rh hc).2,o U H σ (.refl _ _) S Rh⟩
  .rw[aL hc]at o;exact o.elim
theorem atx{X:Cx}(hp:PassesOwn (model X.prog X.w) X.A X.env X.xe)(hc:X.calm=true)(hi:MI X E tg aF f)(hg:MG X E tg g)(hb:MSs X E body b)(hs:∀x,foldedSetIterable aF X.env x=pure x:=by intro _;rfl):MS X E (.For tg aF body [] pos) (a9w f g b):=by
 refine PS.weak (ase hp hc hi hg hb hs) ?_
 rintro N σ H ⟨U,τ,h,S,Rh,o⟩
 exact⟨U,τ,h,S,Rh,qe o λit h1 U1 H1 J g1 r1 hr1 o1=>ap7 r1 (S.mono g1) hr1 o1⟩
end MI
namespace MI
open L2
theorem R.bind_assoc{α β γ:Type}(r:R α)(f:α->Hd->R β)(g:β->Hd->R γ):(r.bind f).bind g=r.bind λa h=>(f a h).bind g:=by cases r<;>rfl
open Classical in
def mapR(ck:Hd->Prop)(f:D->Hd->R D):List D->Hd->R (List D)
 |[],h=>if ck h then .ok [] h else .no
 |x::xs,h=>if ck h then (f x h).bind λy h1=>(mapR ck f xs h1).bind λys h2=>.ok (y::ys) h2 else .no
open Classical in
def aix(ck:Hd->Prop)(f:D->Hd->R (Option D)):List D->Hd->R (List D)
 |[],h=>if ck h then .ok [] h else .no
 |x::xs,h=>if ck h then (f x h).bind λy h1=>(aix ck f xs h1).bind λys h2=>.ok (y.toList++ys) h2 else .no
noncomputable def frs'(ix:List Nat)(τ:Sd):Sd:=ix.map λi=>(τ[i]?).join
def t1(d:D):Option Sd:=some [some d]
noncomputable def tN(n:Nat)(d:D):Option Sd:=match d with|.tup ds=>if ds.length=n then some (ds.map some) else none|_=>none
noncomputable def a2n(t:D->Option Sd)(fe:SE)(aG:Sd)(x:D)(h:Hd):R D:=match t x with|some ts=>fe (ts++aG) h|none=>.no
noncomputable def abd(t:D->Option Sd)(c:ST)(fe:SE)(aG:Sd)(x:D)(h:Hd):R (Option D):=match t x with
 |some ts=>(c (ts++aG) h).bind λb h1=>if b=true then (fe (ts++aG) h1).bind λy h2=>.ok (some y) h2 else .ok none h1
 |none=>.no
noncomputable def acz(yd zs:List D)(h:Hd):R D:=.ok (.ref h.length) (h++[.lst (yd++zs)])
theorem aty(r:R D)(m:Hd->R (List D))(yd:List D):(r.bind λy h1=>(m h1).bind λys h2=>.ok (y::ys) h2).bind (acz yd)=r.bind λy h1=>(m h1).bind (acz (yd++[y])):=by
 cases r with
 |ok y h1 =>
  show((m h1).bind _).bind _=(m h1).bind _
  cases m h1 with
  |ok ys h2=>simp[R.bind,acz]
  |_=>rfl
 |_=>rfl
theorem ayk(r:R (Option D))(m:Hd->R (List D))(yd:List D):(r.bind λy h1=>(m h1).bind λys h2=>.ok (y.toList++ys) h2).bind (acz yd)=r.bind λy h1=>(m h1).bind (acz (yd++y.toList)):=by
 cases r with
 |ok y h1 =>
  show((m h1).bind _).bind _=(m h1).bind _
  cases m h1 with
  |ok ys h2=>simp[R.bind,acz]
  |_=>rfl
 |_=>rfl
def qi(fi:SI)(t:D->Option Sd)(fe:SE)(ix:List Nat):SE:=λτ h=>(fi τ h).bind λit h1=>if it.xs.length<=LINE then (mapR it.ck (a2n t fe (frs' ix τ)) it.xs h1).bind (acz []) else .no
def a1k(fi:SI)(t:D->Option Sd)(c:ST)(fe:SE)(ix:List Nat):SE:=λτ h=>(fi τ h).bind λit h1=>if it.xs.length<=LINE then (aix it.ck (abd t c fe (frs' ix τ)) it.xs h1).bind (acz []) else .no
def af5(K:Fg)(n:Nat)(g:TG)(t:D->Option Sd):Prop:=∀U H v d ts (r:St) (Q:St->Hp->Prop),Rep K U H v d->t d=some ts->(∀us:St,us.length=n->SRep K U H us ts->Q (us++r) H)->g v (List.replicate n none++r) H Q
theorem a8d:SRep K U H [] []:=⟨rfl,λi d e=>by simp at e⟩
theorem a3j(r:Rep K U H v d)(s:SRep K U H σ τ):SRep K U H (some v::σ) (some d::τ):=by
 refine⟨by simp[s.len],λi d' e=>?_⟩
 cases i with
 |zero=>simp at e;subst e;exact⟨v,rfl,r⟩
 |succ i=>simpa using s.val i d' (by simpa using e)
theorem a3k(s:SRep K U H σ τ)(s':SRep K U H σ' τ'):SRep K U H (σ++σ') (τ++τ'):=by
 refine⟨by simp[s.len,s'.len],λi d e=>?_⟩
 by_cases hi:i<τ.length
 .rw[aU hi]at e;rw[aU (by rw[s.len];exact hi)]
  exact s.val i d e
 .rw[aK (by omega)]at e
  rw[aK (by rw[s.len];omega),s.len]
  exact s'.val _ d e
theorem a3l(s:SRep K U H σ τ)(ix:List Nat):SRep K U H (ix.map λi=>(σ[i]?).join) (frs' ix τ):=by
 refine⟨by simp[frs'],λj d e=>?_⟩
 simp only[frs',bV,aQ]at e;obtain⟨i,hi,e⟩:=e;have:τ[i]? = some (some d):=by
  cases q:τ[i]? with
  |none=>rw[q]at e;cases e
  |some o=>rw[q]at e;simp at e;rw[e]
 obtain⟨v,h1,h2⟩:=s.val i d this;exact⟨v,by simp[hi,h1],h2⟩
theorem a06:af5 K 1 (a71 0) t1:=λU H v d ts r Q hr e q=>by
 cases e
 exact q [some v] rfl (a3j hr a8d)
theorem atz{α:Type}{xs:List α}(h:xs.length=n+1):∃x ys,xs=x::ys:=by cases xs with|nil=>cases h|cons x ys=>exact⟨x,ys,rfl⟩
theorem ams{vs:List V}{d:D}{ds:List D}(r:Reps K U H vs (d::ds)):∃v us,vs=v::us/\Rep K U H v d/\Reps K U H us ds:=by cases r with|cons r rs=>exact⟨_,_,rfl,r,rs⟩
theorem amt:af5 K 2 (L2.jl K 2 (aj7 (a71 0) (aj7 (a71 1) azx))) (tN 2):=λU H v d ts r Q hr e q=>by
 unfold tN at e
 cases hr with
 |@tup a vs xs h rs =>
  simp only at e
  split at e
  .rename_i hl;cases e
   obtain⟨x1,xs,rfl⟩:=atz hl;obtain⟨x2,xs,rfl⟩:=atz (fX hl);obtain rfl:=ei.mp (fX (fX hl));obtain⟨v1,vs,rfl,r1,rs⟩:=ams rs;obtain⟨v2,vs,rfl,r2,rs⟩:=ams rs;cases rs
   exact⟨a,_,rfl,SqT.of h,rfl,_,_,rfl,_,_,rfl,rfl,q [some _,some _] rfl (a3j r1 (a3j r2 a8d))⟩
  .cases e
 |_=>cases e
theorem abe{us:St}(h:us.length=n):L2.Ext (List.replicate n none++r) (us++r):=by
 refine⟨by simp[h],λi v e=>?_⟩
 by_cases hi:i<n
 .rw[aU (by simpa using hi),dA,ai hi]at e
  cases e
 .rw[aK (by simpa using hi),dG]at e
  rw[aK (by omega),h]
  exact e
theorem ad0(ir:ap5 K U0 H0 J it)(tg:af5 K n g t)(S:SRep K U0 H0 r rd)(Rh:HRep K U0 H0 h0)(hl:it.xs.length<=LINE)
  (o:out K E (v6 K) U0 H0 ((mapR it.ck (a2n t fe rd) it.xs h0).bind (acz [])) Q):aou J (List.replicate n none++r) g (lift K E (v6 K) fe) Q H0:=by
 refine⟨λi m ys H=>m=it.xs.length-i/\i<=it.xs.length/\ys.length<=i/\∃U h yd,Gr U0 H0 U H/\HRep K U H h/\Reps K U H ys yd/\out K E (v6 K) U H ((mapR it.ck (a2n t fe rd) (it.xs.drop i) h).bind (acz yd)) Q,
  ⟨_,rfl,bE _,bE _,U0,h0,[],.refl _ _,Rh,.nil,o⟩,?_⟩
 rintro i m ys H ⟨rfl,hi,hy,U,h,yd,g0,Rh,ry,o⟩
 by_cases hlt:i<it.xs.length
 .rw[cJ hlt,mapR]at o
  by_cases hc:it.ck h
  .rw[ai hc,aty]at o;obtain⟨go,yl⟩:=(ir U H h g0 Rh hc).1 i _ (a6 hlt);refine .inr ⟨go,Nat.lt_of_le_of_lt hy (aW hlt (ll hl)),λx H' y=>?_⟩;obtain⟨g1,r1,hr1⟩:=yl x H' y;have o':=a5n o g1
   cases ht:t it.xs[i] with
   |none=>simp only[a2n,ht]at o';exact o'.elim
   |some ts =>
    simp only[a2n,ht]at o';refine tg U H' x _ ts r _ r1 ht λus hus su=>⟨abe hus,U,ts++rd,h,a3k su (S.mono (g0.trans g1)),hr1,dg o' λd2 h2 U2 H2 u g2 r2 hr2 o2=>?_⟩;refine⟨it.xs.length-(i+1),by omega,rfl,hlt,by simp;omega,U2,h2,yd++[d2],(g0.trans g1).trans g2,hr2,((ry.mono g1).mono g2).snoc r2,o2⟩
  .rw[aL hc]at o;exact o.elim
 .have e:i=it.xs.length:=by omega
  subst e;rw[cB (a8 _),mapR]at o
  by_cases hc:it.ck h
  .rw[ai hc]at o;refine .inl ⟨(ir U H h g0 Rh hc).2,ym (E:=E) ry Rh ?_⟩;simpa[R.bind,acz] using o
  .rw[aL hc]at o;exact o.elim
theorem a9x(ir:ap5 K U0 H0 J it)(tg:af5 K n g t)(S:SRep K U0 H0 r rd)(Rh:HRep K U0 H0 h0)(hl:it.xs.length<=LINE)
  (o:out K E (v6 K) U0 H0 ((aix it.ck (abd t c fe rd) it.xs h0).bind (acz [])) Q):ab4 J (List.replicate n none++r) g (lift K E ajv c) (lift K E (v6 K) fe) Q H0:=by
 refine⟨λi m ys H=>m=it.xs.length-i/\i<=it.xs.length/\ys.length<=i/\∃U h yd,Gr U0 H0 U H/\HRep K U H h/\Reps K U H ys yd/\out K E (v6 K) U H ((aix it.ck (abd t c fe rd) (it.xs.drop i) h).bind (acz yd)) Q,
  ⟨_,rfl,bE _,bE _,U0,h0,[],.refl _ _,Rh,.nil,o⟩,?_⟩
 rintro i m ys H ⟨rfl,hi,hy,U,h,yd,g0,Rh,ry,o⟩
 by_cases hlt:i<it.xs.length
 .rw[cJ hlt,aix]at o
  by_cases hc:it.ck h
  .rw[ai hc,ayk]at o;obtain⟨go,yl⟩:=(ir U H h g0 Rh hc).1 i _ (a6 hlt);refine .inr ⟨go,Nat.lt_of_le_of_lt hy (aW hlt (ll hl)),λx H' y=>?_⟩;obtain⟨g1,r1,hr1⟩:=yl x H' y;have o':=a5n o g1
   cases ht:t it.xs[i] with
   |none=>simp only[abd,ht]at o';exact o'.elim
   |some ts =>
    simp only[abd,ht]at o';rw[R.bind_assoc]at o';refine tg U H' x _ ts r _ r1 ht λus hus su=>⟨abe hus,U,ts++rd,h,a3k su (S.mono (g0.trans g1)),hr1,dg o' λb h1 U1 H1 b' g2 rb hrb ob=>?_⟩;have su1:SRep K U1 H1 (us++r) (ts++rd):=(a3k su (S.mono (g0.trans g1))).mono g2;cases rb
    cases b with
    |true =>
     rw[ai rfl]at ob ⊢;rw[R.bind_assoc]at ob;refine⟨U1,ts++rd,h1,su1,hrb,dg ob λd2 h2 U2 H2 u g3 r2 hr2 o2=>?_⟩;refine⟨it.xs.length-(i+1),by omega,rfl,hlt,by simp;omega,U2,h2,yd++[d2],((g0.trans g1).trans g2).trans g3,hr2,(((ry.mono g1).mono g2).mono g3).snoc r2,?_⟩
     simpa[R.bind] using o2
    |false =>
     rw[aL aT]at ob ⊢;refine⟨it.xs.length-(i+1),by omega,rfl,hlt,by omega,U1,h1,yd,(g0.trans g1).trans g2,hrb,(ry.mono g1).mono g2,?_⟩
     simpa[R.bind] using ob
  .rw[aL hc]at o;exact o.elim
 .have e:i=it.xs.length:=by omega
  subst e;rw[cB (a8 _),aix]at o
  by_cases hc:it.ck h
  .rw[ai hc]at o;refine .inl ⟨(ir U H h g0 Rh hc).2,ym (E:=E) ry Rh ?_⟩;simpa[R.bind,acz] using o
  .rw[aL hc]at o;exact o.elim
section
variable{X:Cx}{E:XD}{aD tg aF cnd:Expr}{aB:Scope}{pos:Pos}{cl:List (Str×Addr)}{ts fr:List Str}{ix:List Nat}{fi:SI}{g:TG}{t:D->Option Sd}{fe:SE}{fc:ST}
theorem a0x(hc:X.calm=true)(S:CSc X aB cl ts fr ix)(hi:MI X E tg aF fi)(hg:∀C fp s H,PG (cxC X (ts++fr) aB cl C fp s H) tg g)(ht:af5 X.K ts.length g t)(he:∀C fp s H,ME (cxC X (ts++fr) aB cl C fp s H) E aD fe)
  (hs:∀x,foldedSetIterable aF X.env x=pure x:=by intro _;rfl):ME X E (.ListComp aD [⟨tg,aF,[],0⟩] aB pos) (qi fi t fe ix):=by
 refine PE.weak (ajp (te:=lift X.K E (v6 X.K) fe) hc S hi hg he hs) ?_
 rintro σ H Q ⟨U,τ,h,Sr,Rh,o⟩
 refine⟨U,τ,h,Sr,Rh,dg o λit h1 U1 H1 J g1 r1 hr1 o1=>?_⟩
 by_cases hl:it.xs.length<=LINE
 .rw[ai hl]at o1;exact ad0 r1 ht (a3l (Sr.mono g1) ix) hr1 hl o1
 .rw[aL hl]at o1;exact o1.elim
theorem ad1(hc:X.calm=true)(S:CSc X aB cl ts fr ix)(hi:MI X E tg aF fi)(hg:∀C fp s H,PG (cxC X (ts++fr) aB cl C fp s H) tg g)(ht:af5 X.K ts.length g t)(he:∀C fp s H,ME (cxC X (ts++fr) aB cl C fp s H) E aD fe)
  (hq:∀C fp s H,MT (cxC X (ts++fr) aB cl C fp s H) E cnd fc)
  (hs:∀x,foldedSetIterable aF X.env x=pure x:=by intro _;rfl):ME X E (.ListComp aD [⟨tg,aF,[cnd],0⟩] aB pos) (a1k fi t fc fe ix):=by
 refine PE.weak (aeh (te:=lift X.K E (v6 X.K) fe) (tc:=lift X.K E ajv fc) hc S hi hg he hq hs) ?_
 rintro σ H Q ⟨U,τ,h,Sr,Rh,o⟩
 refine⟨U,τ,h,Sr,Rh,dg o λit h1 U1 H1 J g1 r1 hr1 o1=>?_⟩
 by_cases hl:it.xs.length<=LINE
 .rw[ai hl]at o1;exact a9x r1 ht (a3l (Sr.mono g1) ix) hr1 hl o1
 .rw[aL hl]at o1;exact o1.elim
end
mutual
def clo(n:Nat):D->Prop
 |.tup xs=>clos n xs
 |.rol xs=>clos n xs
 |.rod _ xs=>clos n xs
 |.scr xs=>clos n xs
 |.rdT _ xs=>clos n xs
 |.ins _ _ xs=>clos n xs
 |.ref i=>i<n
 |_=>True
def clos(n:Nat):List D->Prop
 |[]=>True
 |x::xs=>clo n x/\clos n xs
end
mutual
theorem Rep.clo:∀{v:V} {d:D},Rep K U H v d->clo U.length d
 |_,_,.non=>by simp[MI.clo]
 |_,_,.bl b=>by simp[MI.clo]
 |_,_,.int i=>by simp[MI.clo]
 |_,_,.str x=>by simp[MI.clo]
 |_,_,.ty n=>by simp[MI.clo]
 |_,_,.tup h r=>by simp only[MI.clo];exact Reps.clo r
 |_,_,.rol h r=>by simp only[MI.clo];exact Reps.clo r
 |_,_,.ref h=>by simp only[MI.clo];exact(ae.mp h).1
 |_,_,.rod h e r=>by simp only[MI.clo];exact Reps.clo r
 |_,_,.scr h r=>by simp only[MI.clo];exact Reps.clo r
 |_,_,.rdT h e r=>by simp only[MI.clo];exact Reps.clo r
 |_,_,.exc h hc hn=>by simp[MI.clo]
 |_,_,.ins h hn e r=>by simp only[MI.clo];exact Reps.clo r
theorem Reps.clo:∀{vs:List V} {ds:List D},Reps K U H vs ds->clos U.length ds
 |_,_,.nil=>by simp[MI.clos]
 |_,_,.cons r rs=>by simp only[MI.clos];exact⟨Rep.clo r,Reps.clo rs⟩
end
mutual
theorem Rep.cut:∀{v:V} {d:D},Rep K U H v d->clo n d->Rep K (U.take n) H v d
 |_,_,.non,_=>.non
 |_,_,.bl b,_=>.bl b
 |_,_,.int i,_=>.int i
 |_,_,.str x,_=>.str x
 |_,_,.ty n,_=>.ty n
 |_,_,.tup h r,c=>.tup h (Reps.cut r (by simpa only[MI.clo] using c))
 |_,_,.rol h r,c=>.rol h (Reps.cut r (by simpa only[MI.clo] using c))
 |_,_,.ref h,c=>.ref (by simp only[MI.clo]at c;rw[el,ai c];exact h)
 |_,_,.rod h e r,c=>.rod h e (Reps.cut r (by simpa only[MI.clo] using c))
 |_,_,.scr h r,c=>.scr h (Reps.cut r (by simpa only[MI.clo] using c))
 |_,_,.rdT h e r,c=>.rdT h e (Reps.cut r (by simpa only[MI.clo] using c))
 |_,_,.exc h hc hn,_=>.exc h hc hn
 |_,_,.ins h hn e r,c=>.ins h hn e (Reps.cut r (by simpa only[MI.clo] using c))
theorem Reps.cut:∀{vs:List V} {ds:List D},Reps K U H vs ds->clos n ds->Reps K (U.take n) H vs ds
 |_,_,.nil,_=>.nil
 |_,_,.cons r rs,c=>by simp only[MI.clos]at c;exact .cons (Rep.cut r c.1) (Reps.cut rs c.2)
end
def wg(n:Nat):O->Prop
 |.lst xs=>clos n xs
 |.dK kvs=>clos n (kvs.map (·.2))
 |.dT kvs=>clos n (kvs.map (·.2))
 |.ins _ fs=>clos n (fs.map (·.2))
 |.dN kvs=>clos n (kvs.map (·.2))
def au0(n:Nat)(h:Hd):Prop:=∀o∈h,wg n o
theorem ORep.clo(r:ORep K U H a o):wg U.length o:=by
 cases o with
 |lst xs=>obtain⟨vs,_,r⟩:=r;exact r.clo
 |dK kvs=>obtain⟨us,_,_,r⟩:=r;exact r.clo
 |dT kvs=>obtain⟨us,_,_,r⟩:=r;exact r.clo
 |ins _ _=>obtain⟨_,_,us,_,_,_,r⟩:=r;exact r.clo
 |dN kvs=>obtain⟨us,_,_,r⟩:=r;exact r.clo
theorem ORep.cut(r:ORep K U H a o)(c:wg n o):ORep K (U.take n) H a o:=by
 cases o with
 |lst xs=>obtain⟨vs,h,r⟩:=r;exact⟨vs,h,r.cut c⟩
 |dK kvs=>obtain⟨us,h,e,r⟩:=r;exact⟨us,h,e,r.cut c⟩
 |dT kvs=>obtain⟨us,h,e,r⟩:=r;exact⟨us,h,e,r.cut c⟩
 |ins _ _=>obtain⟨C,dx,us,h,hn,e,r⟩:=r;exact⟨C,dx,us,h,hn,e,r.cut c⟩
 |dN kvs=>obtain⟨us,h,e,r⟩:=r;exact⟨us,h,e,r.cut c⟩
theorem HRep.clo(r:HRep K U H h):au0 h.length h:=λo ho=>by
 obtain⟨i,hi⟩:=cf ho;obtain⟨a,_,q⟩:=r.addr hi;rw[<-r.len];exact q.clo
theorem HRep.cut(r:HRep K U H (h++g))(c:au0 h.length h):HRep K (U.take h.length) H h:=by
 refine⟨r.nd.sublist (List.take_sublist _ _),?_,λi a o e1 e2=>?_⟩
 .have:=r.len
  rw[a9]at this;rw[aR];omega
 .have hi:i<h.length:=(ae.mp e2).1;rw[el,ai hi]at e1;exact(r.obj i a o e1 (by rw[aU hi];exact e2)).cut (c o (bq e2))
def X0:XD:=λ_ _ _ _=>False
abbrev SF:=List D->Hd->R D
noncomputable def a0h(K:Fg)(n:Nat)(F:SF):Sp:=λvs H Q _=>vs.length=n/\∃U ds h,Reps K U H vs ds/\HRep K U H h/\out K X0 (v6 K) U H (F ds h) Q
noncomputable def a3m(n:Nat)(ds:List D):Sd:=ds.map some++List.replicate (n-ds.length) none
noncomputable def jw(b:SS)(n:Nat)(ds:List D)(h:Hd):R D:=match b (a3m n ds) h with
 |.rt d h1=>.ok d h1
 |.nx _ h1=>.ok .non h1
 |.ex c h1=>.ex c h1
 |_=>.no
def Rf(n:Nat)(r' r:R D):Prop:=match r with
 |.no=>True
 |.ok d h1=>∃g,r'=.ok d (h1++g)/\(g=[]\/(n<=h1.length/\clo h1.length d/\au0 h1.length h1))
 |.ex c h1=>∃g,r'=.ex c (h1++g)/\(g=[]\/(n<=h1.length/\au0 h1.length h1))
theorem Rf.same(h:r'=r):Rf n r' r:=by
 subst h
 cases r' with
 |ok d h1=>exact⟨[],by simp,.inl rfl⟩
 |ex c h1=>exact⟨[],by simp,.inl rfl⟩
 |no=>exact True.intro
theorem a7k(r:Reps K U H vs ds):SRep K U H (start N vs) (a3m N.length ds):=by
 refine a3k ?_ ?_
 .clear N
  induction r using Reps.rec (motive_1:=λ_ _ _=>True) with
  |nil=>exact a8d
  |cons r rs _ ih=>exact a3j r ih
  |_=>trivial
 .rw[r.len];exact⟨by simp,λi d e=>by rw[dA]at e;split at e<;>cases e⟩
theorem amu(g:Gr U H U' H')(hn:U.length<=n):Gr U H (U'.take n) H':=by
 obtain⟨m,rfl,hm⟩:=g.pre;exact⟨⟨m.take (n-U.length),by rw[List.take_append,bB hn],λa ha=>hm a (eT ha)⟩,g.tup,g.frz,g.oth,g.kp⟩
section
variable{P:Program}{w:World}{K:Fg}{mg:Str->Option Value}{base:Heap}
theorem au1(Fu:Fun K x qual st f fd)(S:FnScope N ps (fj st))
  (hb:∀(cdv:Value) (A:Around) (outer:List Env) (s:Shared) (H:Hp) (E:XK),Room k (A.deeper (PyProof.Rows.envOfC qual (fj st) s.heap.objs.size f cdv))->MSs (afm CX0 P w K mg base N qual (fj st) f cdv A outer s H E).nox X0 (qd st) b)
  (hF:∀ds h,ds.length=ps.length->clos h.length ds->au0 h.length h->Rf h.length (jw b N.length ds h) (F ds h)):FnOk P w K mg base CX0 (k+1) f fd ps (a0h K ps.length F):=by
 refine Fu.ok S (λvs H Q E h=>h.1) λcdv A outer s H vs Q E hr h=>⟨_,hb cdv A outer s H E hr,?_⟩;obtain⟨hl,U,ds,h,r,hr',o⟩:=h;refine⟨U,a3m N.length ds,h,a7k r,hr',?_⟩;have q:=hF ds h (by rw[<-r.len];exact hl) (by rw[<-hr'.len];exact r.clo) hr'.clo
 unfold jw at q
 cases hFd:F ds h with
 |no=>rw[hFd]at o;exact o.elim
 |ex c h1 =>
  rw[hFd]at q o;obtain⟨g,e,cl⟩:=q;have fin:∀U' H',Gr U H U' H'->HRep K U' H' (h1++g)->X0 c U' H' (h1++g):=λU' H' g1 hr1=>by
   rcases cl with rfl|⟨hn,c2⟩
   .rw[bP]at hr1;exact o U' H' g1 hr1
   .exact o (U'.take h1.length) H' (amu g1 (by rw[hr'.len];exact hn)) (hr1.cut c2)
  cases hbd:b (a3m N.length ds) h with
  |ex c' h' =>
   rw[hbd]at e
   injection e with e1 e2
   subst e1 e2;exact fin
  |_=>rw[hbd]at e;cases e
 |ok d h1 =>
  rw[hFd]at q o;obtain⟨g,e,cl⟩:=q;have fin:∀U' H' v,Gr U H U' H'->Rep K U' H' v d->HRep K U' H' (h1++g)->Q v H':=λU' H' v g1 r1 hr1=>by
   rcases cl with rfl|⟨hn,c1,c2⟩
   .rw[bP]at hr1;exact o U' H' v g1 r1 hr1
   .exact o (U'.take h1.length) H' v (amu g1 (by rw[hr'.len];exact hn)) (r1.cut c1) (hr1.cut c2)
  cases hbd:b (a3m N.length ds) h with
  |rt d' h' =>
   rw[hbd]at e
   injection e with e1 e2
   subst e1 e2;exact fin
  |nx τ' h' =>
   rw[hbd]at e
   injection e with e1 e2
   subst e1 e2;exact λU' H' σ' g1 S1 hr1=>fin U' H' .non g1 .non hr1
  |_=>rw[hbd]at e;cases e
end
section
variable{K:Fg}{E:XD}{U:List Addr}{H:Hp}{h:Hd}{Q:VK}
theorem ans(o:out K E (v6 K) U H (.ok d h) Q)(r:Rep K U H v d)(hr:HRep K U H h):Q v H:=o U H v (.refl _ _) r hr
theorem HRep.lst(hr:HRep K U H h){i:Nat}{a:Addr}{xs:List D}(e:U[i]? = some a)(hi:h[i]? = some (.lst xs)):∃vs,H a=some (.lst vs)/\Reps K U H vs xs:=hr.obj i a _ e hi
end
noncomputable def b1a:D->D->Hd->R D
 |.int i,.int j,h=>.ok (.int (i+j)) h
 |.str x,.str y,h=>if x.length+y.length<=LINE then .ok (.str (x++y)) h else .no
 |.tup xs,.tup ys,h=>if xs≠[]/\xs.length+ys.length<=LINE then .ok (.tup (xs++ys)) h else .no
 |.ref i,.ref j,h=>match h[i]?,h[j]? with
  |some (.lst xs),some (.lst ys)=>if xs.length+ys.length<=LINE then .ok (.ref h.length) (h++[.lst (xs++ys)]) else .no
  |_,_=>.no
 |_,_,_=>.no
noncomputable def a4e:D->D->Hd->R D
 |.int i,.int j,h=>.ok (.int (i-j)) h
 |_,_,_=>.no
noncomputable def a3n:D->D->Hd->R D
 |.int i,.int j,h=>if 0<j then .ok (.int (i%j)) h else .no
 |_,_,_=>.no
noncomputable def a74:D->D->Hd->R D
 |.int i,.int j,h=>if 0<j/\j<1073741824 then .ok (.int (i / j)) h else .no
 |_,_,_=>.no
noncomputable def a6e:D->D->Hd->R D
 |.int i,.int j,h=>if 0<=j/\j<=1000000/\i.natAbs<2^64 then .ok (.int (i^j.toNat)) h else .no
 |_,_,_=>.no
section
variable{X:Cx}{K:Fg}
theorem abf:a0j K a4e (rI0 λi j=>.int (i-j)):=by
 intro E U H h x y dx dy Q rx ry hr o
 cases rx with
 |int i =>
  cases ry with
  |int j=>exact⟨i,j,rfl,rfl,ans o (.int _) hr⟩
  |_=>exact o.elim
 |_=>exact o.elim
theorem ap8:a0j K a3n (rI (λ_ j=>0<j) λi j=>.int (i%j)):=by
 intro E U H h x y dx dy Q rx ry hr o
 cases rx with
 |int i =>
  cases ry with
  |int j =>
   by_cases hc:0<j
   .simp only[a3n,ai hc]at o;exact⟨i,j,rfl,rfl,hc,ans o (.int _) hr⟩
   .simp only[a3n,aL hc]at o;exact o.elim
  |_=>exact o.elim
 |_=>exact o.elim
theorem agg:a0j K a74 (rI ay0 λi j=>.int (i / j)):=by
 intro E U H h x y dx dy Q rx ry hr o
 cases rx with
 |int i =>
  cases ry with
  |int j =>
   by_cases hc:0<j/\j<1073741824
   .simp only[a74,ai hc]at o;exact⟨i,j,rfl,rfl,hc,ans o (.int _) hr⟩
   .simp only[a74,aL hc]at o;exact o.elim
  |_=>exact o.elim
 |_=>exact o.elim
theorem ap9:a0j K a6e (rI azz λi j=>.int (i^j.toNat)):=by
 intro E U H h x y dx dy Q rx ry hr o
 cases rx with
 |int i =>
  cases ry with
  |int j =>
   by_cases hc:0<=j/\j<=1000000/\i.natAbs<2^64
   .simp only[a6e,ai hc]at o;exact⟨i,j,rfl,rfl,hc,ans o (.int _) hr⟩
   .simp only[a6e,aL hc]at o;exact o.elim
  |_=>exact o.elim
 |_=>exact o.elim
variable{E:XD}{a b e:Expr}{es:List Expr}{fa fb:SE}{ka:SA}{pos:Pos}
theorem au2(ha:ME X E a fa)(hb:ME X E b fb):ME X E (.BinOp a .Sub b pos) (s2 a4e fa fb):=aen ash abf ha hb
theorem au3(ha:ME X E a fa)(hb:ME X E b fb):ME X E (.BinOp a .Mod b pos) (s2 a3n fa fb):=aen asj ap8 ha hb
theorem au4(ha:ME X E a fa)(hb:ME X E b fb):ME X E (.BinOp a .FloorDiv b pos) (s2 a74 fa fb):=aen aod agg ha hb
theorem au5(ha:ME X E a fa)(hb:ME X E b fb):ME X E (.BinOp a .Pow b pos) (s2 a6e fa fb):=aen asl ap9 ha hb
noncomputable def agh:D->Hd->R D
 |.int i,h=>.ok (.int (-i)) h
 |_,_=>.no
theorem au6(ha:ME X E a fa):ME X E (.UnaryOp .USub a pos) (s1 agh fa):=ayf asm (λE U H h x dx Q rx hr o=>by
 cases rx with
 |int i=>exact⟨i,rfl,ans o (.int _) hr⟩
 |_=>exact o.elim) ha
noncomputable def gLt:D->D->Hd->R D
 |.int i,.int j,h=>.ok (.bl (decide (i<j))) h
 |.str i,.str j,h=>.ok (.bl (decide (i.cps.toList<j.cps.toList))) h
 |_,_,_=>.no
noncomputable def gLe:D->D->Hd->R D
 |.int i,.int j,h=>.ok (.bl (decide (i<=j))) h
 |.str i,.str j,h=>.ok (.bl (!decide (j.cps.toList<i.cps.toList))) h
 |_,_,_=>.no
noncomputable def gGt:D->D->Hd->R D
 |.int i,.int j,h=>.ok (.bl (decide (j<i))) h
 |_,_,_=>.no
noncomputable def gGe:D->D->Hd->R D
 |.int i,.int j,h=>.ok (.bl (decide (j<=i))) h
 |_,_,_=>.no
theorem agi:a0j K gLt (λx y H Q=>rI0 (λi j=>.bl (decide (i<j))) x y H Q\/∃i j,x=.str i/\y=.str j/\Q (.bl (decide (i.cps.toList<j.cps.toList))) H):=by
 intro E U H h x y dx dy Q rx ry hr o
 cases rx with
 |int i =>
  cases ry with
  |int j=>exact .inl ⟨i,j,rfl,rfl,ans o (.bl _) hr⟩
  |_=>exact o.elim
 |str i =>
  cases ry with
  |str j=>exact .inr ⟨i,j,rfl,rfl,ans o (.bl _) hr⟩
  |_=>exact o.elim
 |_=>exact o.elim
theorem a3o:a0j K gLe (λx y H Q=>rI0 (λi j=>.bl (decide (i<=j))) x y H Q\/∃i j,x=.str i/\y=.str j/\Q (.bl (!decide (j.cps.toList<i.cps.toList))) H):=by
 intro E U H h x y dx dy Q rx ry hr o
 cases rx with
 |int i =>
  cases ry with
  |int j=>exact .inl ⟨i,j,rfl,rfl,ans o (.bl _) hr⟩
  |_=>exact o.elim
 |str i =>
  cases ry with
  |str j=>exact .inr ⟨i,j,rfl,rfl,ans o (.bl _) hr⟩
  |_=>exact o.elim
 |_=>exact o.elim
theorem amv:a0j K gGt (rI0 λi j=>.bl (decide (j<i))):=by
 intro E U H h x y dx dy Q rx ry hr o
 cases rx with
 |int i =>
  cases ry with
  |int j=>exact⟨i,j,rfl,rfl,ans o (.bl _) hr⟩
  |_=>exact o.elim
 |_=>exact o.elim
theorem au7:a0j K gGe (rI0 λi j=>.bl (decide (j<=i))):=by
 intro E U H h x y dx dy Q rx ry hr o
 cases rx with
 |int i =>
  cases ry with
  |int j=>exact⟨i,j,rfl,rfl,ans o (.bl _) hr⟩
  |_=>exact o.elim
 |_=>exact o.elim
def a75:D->Bool
 |.non=>true
 |_=>false
theorem apa(r:Rep K U H x .non):x=.non:=by cases r;rfl
theorem amw{b:Bool}(r:Rep K U H x (.bl b)):x=.bl b:=by cases r;rfl
theorem agj{i:Int}(r:Rep K U H x (.int i)):x=.int i:=by cases r;rfl
theorem ak1(r:Rep K U H x d):decide (x=.non)=a75 d:=by cases r<;>simp[a75]
noncomputable def gIs(x y:D)(h:Hd):R D:=match y with
 |.non=>.ok (.bl (a75 x)) h
 |.bl j=>(match x with|.bl i=>.ok (.bl (i == j)) h|_=>.no)
 |_=>.no
noncomputable def a5b(x y:D)(h:Hd):R D:=match y with
 |.non=>.ok (.bl (!a75 x)) h
 |.bl j=>(match x with|.bl i=>.ok (.bl (i != j)) h|_=>.no)
 |_=>.no
theorem agk:a0j K a5b (λx y H Q=>(y=.non/\Q (.bl (!decide (x=.non))) H)\/∃i j,x=.bl i/\y=.bl j/\Q (.bl (i != j)) H):=by
 intro E U H h x y dx dy Q rx ry hr o
 cases dy with
 |non=>exact .inl ⟨apa ry,by rw[ak1 rx];exact ans o (.bl _) hr⟩
 |bl j =>
  cases dx with
  |bl i=>exact .inr ⟨i,j,amw rx,amw ry,ans o (.bl _) hr⟩
  |_=>exact o.elim
 |_=>exact o.elim
noncomputable def zr:D->Bool
 |.non=>true|.bl _=>true|.int _=>true|.str _=>true
 |_=>false
noncomputable def fvD:D->Option V
 |.non=>some .non|.bl b=>some (.bl b)|.int i=>some (.int i)|.str x=>some (.str x)
 |_=>none
theorem ak2{d:D}(r:Rep K U H x d)(f:zr d=true):fvD d=some x:=by
 cases r<;>first|rfl|(cases f;done)
theorem fvs{d e:D}{P:D->V->D->V->Prop}(h:∀d x e y,fvD d=some x->fvD e=some y->P d x e y)(r:Rep K U H x d)(q:Rep K U H y e)(f:zr d=true)(g:zr e=true):P d x e y:=h d x e y (ak2 r f) (ak2 q g)
noncomputable def eqF:D->D->Bool
 |.non,.non=>true
 |.bl i,.bl j=>i == j
 |.int i,.int j=>i == j
 |.str i,.str j=>i == j
 |.int i,.bl j=>i == (if j then 1 else 0)
 |.bl i,.int j=>(if i then 1 else 0) == j
 |_,_=>false
end
section
variable{X:Cx}{K:Fg}{E:XD}{a b e o:Expr}{es:List Expr}{fa fb:SE}{ka:SA}{pos:Pos}
noncomputable def ww(d:D)(h:Hd):Option (List D):=match d with
 |.tup xs=>some xs
 |.rol xs=>some xs
 |.ref i=>match h[i]? with|some (.lst xs)=>some xs|_=>none
 |_=>none
noncomputable def gIx(x y:D)(h:Hd):R D:=match y with
 |.int i=>(match x with
  |.str z=>if z.length<=LINE then (match atI z.cps.toList i with|some c=>.ok (.str ⟨#[c]⟩) h|none=>.no) else .no
  |x=>match ww x h with
   |some xs=>(match atI xs i with|some d=>.ok d h|none=>.no)
   |none=>.no)
 |_=>.no
theorem ad2(r:Reps K U H vs xs)(e:atI xs i=some d):∃v,atI vs i=some v/\Rep K U H v d:=by
 unfold atI at e ⊢;rw[r.len]
 cases hx:ixN xs.length i with
 |none=>rw[hx]at e;cases e
 |some j=>rw[hx]at e;exact r.get e
theorem au8:a0j K gIx (rIx K):=by
 intro E U H h x y dx dy Q rx ry hr o
 cases ry with
 |int i =>
  have go:∀{p:Addr} {vs:List V} {xs:List D},Reps K U H vs xs->out K E (v6 K) U H (match atI xs i with|some d=>.ok d h|none=>.no) Q->∃v,atI vs i=some v/\Q v H:=λ{p vs xs} r o=>by
   cases he:atI xs i with
   |none=>rw[he]at o;exact o.elim
   |some d =>
    rw[he]at o;obtain⟨v,h1,h2⟩:=ad2 r he;exact⟨v,h1,ans o h2 hr⟩
  cases rx with
  |str z =>
   by_cases hc:z.length<=LINE
   .simp only[gIx,ai hc]at o
    cases he:atI z.cps.toList i with
    |none=>rw[he]at o;exact o.elim
    |some c=>rw[he]at o;exact .inr (.inr ⟨z,i,c,rfl,rfl,ll hc,he,ans o (.str _) hr⟩)
   .simp only[gIx,aL hc]at o;exact o.elim
  |@tup p vs xs hp r =>
   simp only[gIx,ww]at o;obtain⟨v,h1,h2⟩:=go (p:=p) r o;exact .inr (.inl ⟨p,vs,i,v,rfl,rfl,SqT.of hp,h1,h2⟩)
  |@rol p vs xs hp r =>
   simp only[gIx,ww]at o;obtain⟨v,h1,h2⟩:=go (p:=p) r o;exact .inl ⟨p,vs,i,v,rfl,rfl,hp.l,h1,h2⟩
  |@ref p j hp =>
   obtain⟨ob,e1,e2⟩:=hr.at hp
   cases ob with
   |lst xs =>
    simp only[gIx,ww,e1]at o;obtain⟨vs,h3,h4⟩:=e2;obtain⟨v,h1,h2⟩:=go (p:=p) h4 o;exact .inl ⟨p,vs,i,v,rfl,rfl,SqL.of h3,h1,h2⟩
   |dK _=>simp only[gIx,ww,e1]at o;exact o.elim
   |dT _=>simp only[gIx,ww,e1]at o;exact o.elim
   |ins _ _=>simp only[gIx,ww,e1]at o;exact o.elim
   |dN _=>simp only[gIx,ww,e1]at o;exact o.elim
  |_=>exact o.elim
 |_=>exact o.elim
theorem apb(ha:ME X E a fa)(hb:ME X E b fb)(hp:a84 b):ME X E (.Subscript a b pos) (s2 gIx fa fb):=ayg asw au8 ha hb hp
abbrev SO:=Sd->Hd->R (Option Int)
abbrev MO(X:Cx)(E:XD)(e:Option Expr)(f:SO):Prop:=PO X e (lift X.K E b17 f)
def oN:SO:=λ_ h=>.ok none h
noncomputable def oS(f:SE):SO:=λτ h=>(f τ h).bind λd h1=>match d with|.int i=>.ok (some i) h1|_=>.no
theorem PO.weak{e:Option Expr}{t t':St->Hp->(Option Int->Hp->Prop)->Prop}(h:PO X e t)(i:∀σ H Q,t' σ H Q->t σ H Q):PO X e t':=λaA s σ H Q I q=>h aA s σ H Q I (i _ _ _ q)
theorem apc:MO X E none oN:=PO.weak aom λσ H Q ⟨U,τ,h,S,Rh,o⟩=>o U H none (.refl _ _) rfl Rh
theorem apd(he:ME X E e fa):MO X E (some e) (oS fa):=by
 refine PO.weak (aon he) ?_
 rintro σ H Q ⟨U,τ,h,S,Rh,o⟩
 refine⟨U,τ,h,S,Rh,dg o λd h1 U1 H1 v g1 r1 hr1 o1=>?_⟩
 cases r1 with
 |int i=>exact⟨i,rfl,o1 U1 H1 _ (.refl _ _) rfl hr1⟩
 |_=>exact o1.elim
def whole(n:Nat)(lo hi:Option Int):Prop:=HT.sIx n 0 lo=0/\HT.sIx n n hi=n
instance (n:Nat) (lo hi:Option Int):Decidable (whole n lo hi):=by unfold whole;exact inferInstance
noncomputable def gSl(d:D)(lo hi:Option Int)(h:Hd):R D:=match d with
 |.str z=>if z.length<=LINE then .ok (.str ⟨(a72 z.cps.toList lo hi).toArray⟩) h else .no
 |.tup xs=>if ¬ whole xs.length lo hi then .ok (.tup (a72 xs lo hi)) h else .no
 |.rol xs=>.ok (.ref h.length) (h++[.lst (a72 xs lo hi)])
 |.scr xs=>.ok (.ref h.length) (h++[.lst (a72 xs lo hi)])
 |.ref i=>match h[i]? with|some (.lst xs)=>.ok (.ref h.length) (h++[.lst (a72 xs lo hi)])|_=>.no
 |_=>.no
theorem a3p(r:Reps K U H vs xs)(lo hi:Option Int):Reps K U H (ame vs lo hi) (a72 xs lo hi):=by
 unfold ame a72;rw[r.len];exact(r.drop _).take _
theorem ad3(rx:Rep K U H x d)(hr:HRep K U H h)(o:out K E (v6 K) U H (gSl d lo hi h) Q):aya x lo hi H Q\/ay5 K x lo hi H Q\/ay7 K x lo hi H Q:=by
 cases rx with
 |str z =>
  by_cases hc:z.length<=LINE
  .simp only[gSl,ai hc]at o;exact .inl ⟨z,rfl,ll hc,ans o (.str _) hr⟩
  .simp only[gSl,aL hc]at o;exact o.elim
 |@tup p vs xs hp r =>
  by_cases hc:¬ whole xs.length lo hi
  .simp only[gSl,ai hc]at o;exact .inr (.inl ⟨p,vs,rfl,SqT.of hp,by rw[r.len];exact hc,a2t (a3p r lo hi) hr o⟩)
  .simp only[gSl,aL hc]at o;exact o.elim
 |@rol p vs xs hp r=>exact .inr (.inr ⟨p,vs,rfl,hp.l,ym (a3p r lo hi) hr o⟩)
 |@scr p vs xs hp r=>exact .inr (.inr ⟨p,vs,rfl,hp.l,ym (a3p r lo hi) hr o⟩)
 |@ref p j hp =>
  obtain⟨ob,e1,e2⟩:=hr.at hp
  cases ob with
  |lst xs =>
   simp only[gSl,e1]at o;obtain⟨vs,h3,h4⟩:=e2;exact .inr (.inr ⟨p,vs,rfl,SqL.of h3,ym (a3p h4 lo hi) hr o⟩)
  |dK _=>simp only[gSl,e1]at o;exact o.elim
  |dT _=>simp only[gSl,e1]at o;exact o.elim
  |ins _ _=>simp only[gSl,e1]at o;exact o.elim
  |dN _=>simp only[gSl,e1]at o;exact o.elim
 |_=>exact o.elim
theorem agl(r:Rep K U H x d)(f:zr d=true):a2q x=true:=by cases r<;>first|rfl|cases f
theorem au9(r:Rep K U H x d)(q:Rep K U H y c):zr d=true->zr c=true->eqV x y=eqF d c:=λf g=>by
 refine fvs (P:=λd x c y=>eqV x y=eqF d c) (λd x e y h h'=>?_) r q f g
 cases d<;>first|(cases h;done)|(cases h;cases e<;>first|(cases h';done)|(cases h';rfl))
noncomputable def inD(x:D)(xs:List D):Bool:=xs.any λy=>eqF y x
theorem ak3(r:Reps K U H vs xs)(f:xs.all zr=true):vs.all a2q=true:=by
 induction r using Reps.rec (motive_1:=λ_ _ _=>True) with
 |nil=>rfl
 |cons r rs _ ih =>
  rw[bD,af]at f ⊢;exact⟨agl r f.1,ih f.2⟩
 |_=>trivial
theorem aua(rx:Rep K U H x d)(fx:zr d=true)(r:Reps K U H vs xs)(f:xs.all zr=true):inV x vs=inD d xs:=by
 unfold inV inD
 induction r using Reps.rec (motive_1:=λ_ _ _=>True) with
 |nil=>rfl
 |cons r rs _ ih =>
  rw[bD,af]at f;rw[fL,fL,ih f.2,au9 r rx f.1 fx]
 |_=>trivial
noncomputable def gIn(neg:Bool)(x y:D)(h:Hd):R D:=match y with
 |.str T=>(match x with
  |.str z=>(match z.cps.toList with|[c]=>.ok (.bl (if neg then !decide (c∈T.cps.toList) else decide (c∈T.cps.toList))) h|_=>.no)
  |_=>.no)
 |y=>match ww y h with
  |some xs=>if zr x=true/\xs.all zr=true then .ok (.bl (if neg then !inD x xs else inD x xs)) h else .no
  |none=>.no
theorem one_sign{z:Str}(h:z.cps.toList=[c]):z=⟨#[c]⟩:=by
 obtain⟨cps⟩:=z
 congr
 exact Array.ext' (by simpa using h)
theorem amx(neg:Bool){r1:R2}(h1:∀c T H (Q:VK),Q (.bl (if neg then !decide (c∈T.cps.toList) else decide (c∈T.cps.toList))) H->r1 (.str ⟨#[c]⟩) (.str T) H Q):a0j K (gIn neg) (λx y H Q=>r1 x y H Q\/rIn K neg x y H Q):=by
 intro E U H h x y dx dy Q rx ry hr o
 have go:∀{p:Addr} {vs:List V} {xs:List D},(SqL K H p vs\/SqT K H p vs)->Reps K U H vs xs->out K E (v6 K) U H (if zr dx=true/\xs.all zr=true then .ok (.bl (if neg then !inD dx xs else inD dx xs)) h else .no) Q->rIn K neg x (.ref p) H Q:=λ{p vs xs} sq r o=>by
  split at o
  .rename_i hc;exact⟨p,vs,rfl,sq,agl rx hc.1,ak3 r hc.2,by rw[aua rx hc.1 r hc.2];exact ans o (.bl _) hr⟩
  .exact o.elim
 cases ry with
 |str T =>
  cases rx with
  |str z =>
   simp only[gIn]at o
   split at o
   .rename_i c hz;rw[one_sign hz];exact .inl (h1 c T H Q (ans o (.bl _) hr))
   .exact o.elim
  |_=>exact o.elim
 |@tup p vs xs hp r=>simp only[gIn,ww]at o;exact .inr (go (.inr (SqT.of hp)) r o)
 |@rol p vs xs hp r=>simp only[gIn,ww]at o;exact .inr (go (.inl hp.l) r o)
 |@ref p j hp =>
  obtain⟨ob,e1,e2⟩:=hr.at hp
  cases ob with
  |lst xs =>
   simp only[gIn,ww,e1]at o;obtain⟨vs,h3,h4⟩:=e2;exact .inr (go (.inl (SqL.of h3)) h4 o)
  |dK _=>simp only[gIn,ww,e1]at o;exact o.elim
  |dT _=>simp only[gIn,ww,e1]at o;exact o.elim
  |ins _ _=>simp only[gIn,ww,e1]at o;exact o.elim
  |dN _=>simp only[gIn,ww,e1]at o;exact o.elim
 |_=>exact o.elim
theorem agm:a0j K (gIn false) (λx y H Q=>(∃c T,x=.str ⟨#[c]⟩/\y=.str T/\Q (.bl (decide (c∈T.cps.toList))) H)\/rIn K false x y H Q):=amx false λc T H Q q=>⟨c,T,rfl,rfl,q⟩
theorem ape:a0j K (gIn true) (λx y H Q=>(∃c T,x=.str ⟨#[c]⟩/\y=.str T/\Q (.bl (!decide (c∈T.cps.toList))) H)\/rIn K true x y H Q):=amx true λc T H Q q=>⟨c,T,rfl,rfl,q⟩
noncomputable def my:List D->Hd->R D
 |[.str z],h=>if z.length<=LINE then .ok (.int z.length) h else .no
 |[x],h=>(match ww x h with|some xs=>.ok (.int xs.length) h|none=>.no)
 |_,_=>.no
theorem apf:acv K my (λxs H Q=>(∃p ys,xs=[.ref p]/\(SqL K H p ys\/SqT K H p ys)/\Q (.int ys.length) H)\/∃z,xs=[.str z]/\z.length<=sizeLine/\Q (.int z.length) H):=by
 intro E U H h xs ds Q r hr o
 cases r with
 |nil=>exact o.elim
 |cons r rs =>
  cases rs with
  |cons _ _=>exact(show False by cases r<;>exact o).elim
  |nil =>
   cases r with
   |str z =>
    by_cases hc:z.length<=LINE
    .simp only[my,ai hc]at o;exact .inr ⟨z,rfl,ll hc,ans o (.int _) hr⟩
    .simp only[my,aL hc]at o;exact o.elim
   |@tup p vs xs hp r=>simp only[my,ww]at o;exact .inl ⟨p,vs,rfl,.inr (SqT.of hp),by rw[r.len];exact ans o (.int _) hr⟩
   |@rol p vs xs hp r=>simp only[my,ww]at o;exact .inl ⟨p,vs,rfl,.inl hp.l,by rw[r.len];exact ans o (.int _) hr⟩
   |@ref p j hp =>
    obtain⟨ob,e1,e2⟩:=hr.at hp
    cases ob with
    |lst xs =>
     simp only[my,ww,e1]at o;obtain⟨vs,h3,h4⟩:=e2;exact .inl ⟨p,vs,rfl,.inl (SqL.of h3),by rw[h4.len];exact ans o (.int _) hr⟩
    |dK _=>simp only[my,ww,e1]at o;exact o.elim
    |dT _=>simp only[my,ww,e1]at o;exact o.elim
    |ins _ _=>simp only[my,ww,e1]at o;exact o.elim
    |dN _=>simp only[my,ww,e1]at o;exact o.elim
   |_=>exact o.elim
noncomputable def ax2:List D->Hd->R D
 |[.int i],h=>.ok (.int (if i<0 then -i else i)) h
 |_,_=>.no
theorem apg:acv K ax2 (λxs H Q=>∃i,xs=[.int i]/\Q (.int (if i<0 then -i else i)) H):=by
 intro E U H h xs ds Q r hr o
 unfold ax2 at o
 split at o
 .cases r with|cons r rs=>cases r;cases rs;exact⟨_,rfl,ans o (.int _) hr⟩
 .exact o.elim
noncomputable def a9y:List D->Hd->R D
 |[.int i,.int j],h=>.ok (.int (if j > i then j else i)) h
 |_,_=>.no
noncomputable def ak4:List D->Hd->R D
 |[.int i,.int j],h=>.ok (.int (if j<i then j else i)) h
 |_,_=>.no
theorem ak5:acv K a9y (λxs H Q=>∃i j,xs=[.int i,.int j]/\Q (.int (if j > i then j else i)) H):=by
 intro E U H h xs ds Q r hr o
 unfold a9y at o
 split at o
 .cases r with|cons r rs=>cases rs with|cons q rs=>cases r;cases q;cases rs;exact⟨_,_,rfl,ans o (.int _) hr⟩
 .exact o.elim
noncomputable def ak6:List D->Hd->R D
 |[.int i],h=>.ok (.int i) h
 |[.bl k],h=>.ok (.int (if k then 1 else 0)) h
 |_,_=>.no
theorem aph:acv K ak6 (λxs H Q=>(∃i,xs=[.int i]/\Q (.int i) H)\/∃k,xs=[.bl k]/\Q (.int (if k then 1 else 0)) H):=by
 intro E U H h xs ds Q r hr o
 unfold ak6 at o
 split at o
 .cases r with|cons r rs=>cases r;cases rs;exact .inl ⟨_,rfl,ans o (.int _) hr⟩
 .cases r with|cons r rs=>cases r;cases rs;exact .inr ⟨_,rfl,ans o (.int _) hr⟩
 .exact o.elim
noncomputable def aub:List D->Hd->R D
 |[.str x],h=>if x.length=1 then .ok (.int (x.cps.getD 0 0:Nat)) h else .no
 |_,_=>.no
theorem api:acv K aub (λxs H Q=>∃x,xs=[.str x]/\x.length=1/\Q (.int (x.cps.getD 0 0:Nat)) H):=by
 intro E U H h xs ds Q r hr o
 unfold aub at o
 split at o
 .split at o
  .rename_i hc
   cases r with|cons r rs=>cases r;cases rs;exact⟨_,rfl,hc,ans o (.int _) hr⟩
  .exact o.elim
 .exact o.elim
noncomputable def tyD(d:D)(h:Hd):Option String:=match d with
 |.non=>some "NoneType" |.bl _=>some "bool" |.int _=>some "int" |.str _=>some "str" |.tup _=>some "tuple" |.rol _=>some "list"
 |.ref i=>(match h[i]? with|some (.lst _)=>some "list" |some (.dK _)=>some "dict" |_=>none)
 |_=>none
noncomputable def aiy(t T:String):Option Bool :=
 if t∈["NoneType","bool","int","str","tuple","list","dict"]/\T∈["bool","int","str","tuple","list","dict"] then some (t == T || (t == "bool" && T == "int")) else none
theorem agn{t T:String}{b:Bool}(e:aiy t T=some b):PySem.W.kitOne K (.type t) (.type T)=some b:=by
 unfold aiy at e
 split at e
 .rename_i h;obtain⟨h1,h2⟩:=h;simp only[aV,c8,eF]at h1 h2
  rcases h1 with rfl|rfl|rfl|rfl|rfl|rfl|rfl<;>rcases h2 with rfl|rfl|rfl|rfl|rfl|rfl<;>(cases e;rfl)
 .cases e
noncomputable def amy:List D->Hd->R D
 |[x,.ty T],h=>(match tyD x h with|some t=>(match aiy t T with|some b=>.ok (.bl b) h|none=>.no)|none=>.no)
 |_,_=>.no
theorem auc(r:Rep K U H x d)(hr:HRep K U H h)(e:tyD d h=some t):TyOf K H x (.type t):=by
 cases r with
 |non=>cases e;exact .non
 |bl b=>cases e;exact .bl b
 |int b=>cases e;exact .int b
 |str b=>cases e;exact .str b
 |ty _=>cases e
 |tup hp r=>cases e;exact .tup hp
 |rol hp r=>cases e;obtain⟨o,hp⟩:=hp;exact .frz hp
 |scr _ _=>cases e
 |rod _ _ _=>cases e
 |rdT _ _ _=>cases e
 |exc _ _ _=>cases e
 |ins _ _ _ _=>cases e
 |ref hp =>
  obtain⟨ob,e1,e2⟩:=hr.at hp
  cases ob with
  |lst xs=>simp only[tyD,e1]at e;cases e;obtain⟨vs,h3,h4⟩:=e2;exact .lst h3
  |dK _=>simp only[tyD,e1]at e;cases e;obtain⟨vs,h3,h4⟩:=e2;exact .dK h3
  |dT _=>simp only[tyD,e1]at e;cases e
  |ins _ _=>simp only[tyD,e1]at e;cases e
  |dN _=>simp only[tyD,e1]at e;cases e
theorem apj:acv K amy (λxs H Q=>∃x T t b,xs=[x,.ty T]/\TyOf K H x t/\PySem.W.kitOne K t (.type T)=some b/\Q (.bl b) H):=by
 intro E U H h xs ds Q r hr o
 unfold amy at o
 split at o
 .rename_i d T
  cases r with
  |cons r rs =>
   cases rs with
   |cons q rs =>
    cases q;cases rs
    cases ht:tyD d h with
    |none=>rw[ht]at o;exact o.elim
    |some t =>
     rw[ht]at o
     cases hb:aiy t T with
     |none=>simp only[hb]at o;exact o.elim
     |some b =>
      simp only[hb]at o;exact⟨_,T,.type t,b,rfl,auc r hr ht,agn hb,ans o (.bl _) hr⟩
 .exact o.elim
end
section
variable{X:Cx}{K:Fg}{E:XD}{a b e o:Expr}{es:List Expr}{fa fb fo:SE}{ka:SA}{pos apos cpos:Pos}{name:Str}{idn:String}
def amz(K:Fg)(g:D->List D->Hd->R D)(r:V->List V->Hp->VK->Prop):Prop:=∀(E:XD) U H h x dx xs ds Q,Rep K U H x dx->Reps K U H xs ds->HRep K U H h->out K E (v6 K) U H (g dx ds h) Q->r x xs H Q
noncomputable def isL(d:D)(h:Hd):Bool:=match d with|.ref i=>(match h[i]? with|some (.lst _)=>true|_=>false)|.rol _=>true|_=>false
noncomputable def sML(g:D->List D->Hd->R D)(f:SE)(k:SA):SE:=λτ h=>(f τ h).bind λd h1=>if isL d h1=true then (k τ h1).bind λds h2=>g d ds h2 else .no
theorem aud(r:Rep K U H x d)(hr:HRep K U H h)(e:isL d h=true):tyV K "list" x H:=by
 cases r with
 |rol hp _=>exact .inl ⟨rfl,_,hp.l⟩
 |ref hp =>
  obtain⟨ob,e1,e2⟩:=hr.at hp
  cases ob with
  |lst xs=>obtain⟨vs,h3,_⟩:=e2;exact .inl ⟨rfl,_,SqL.of h3⟩
  |dK _=>simp[isL,e1]at e
  |dT _=>simp[isL,e1]at e
  |ins _ _=>simp[isL,e1]at e
  |dN _=>simp[isL,e1]at e
 |_=>cases e
theorem ak7(slot:Slot "list" name idn)(hty:typeOf (.builtin idn)=pure (.type "method_descriptor"))(hm:MtR X idn r)(hs:amz X.K g r)(ho:ME X E o fo)(ha:MA X E (e::es) ka)
  (hbase:attributeBase o name X.env (eval o X.env)=eval o X.env:=by rfl)
  (hfew:((backTo cpos (starEach (e::es) X.env)).all (λx => !x.1) && (backToKw cpos (keywordEach [] X.env)).all (λx=>x.1.isSome)
   && decide ((e::es).length+([]:List Keyword).length+(if ([]:List Keyword).isEmpty then 0 else 1)<30))=true:=by rfl)
  (hline:(apos.endLine == cpos.line)=true:=by rfl) (hst:starEach (e::es) X.env=(false,eval e X.env)::starEach es X.env:=by rfl) (hplain:(backTo cpos (starEach es X.env)).any (·.1)=false:=by rfl) :
  ME X E (.Call (.Attribute o name apos) (e::es) [] cpos) (sML g fo ka):=by
 refine PE.weak (ay8 PySem.F.plainAttrs_list slot hty hm ho ha hbase hfew hline hst hplain) ?_
 rintro σ H Q ⟨U,τ,h,S,Rh,o⟩
 refine⟨U,τ,h,S,Rh,dg o λd h1 U1 H1 v g1 r1 hr1 o1=>?_⟩
 by_cases hc:isL d h1=true
 .rw[ai hc]at o1;refine⟨aud r1 hr1 hc,U1,τ,h1,S.mono g1,hr1,dg o1 λds h2 U2 H2 vs g2 r2 hr2 o2=>?_⟩;exact hs E U2 H2 h2 v d vs ds Q (r1.mono g2) r2 hr2 o2
 .rw[aL hc]at o1;exact o1.elim
noncomputable def aep:D->List D->Hd->R D
 |.ref i,[y],h=>(match h[i]? with|some (.lst xs)=>if xs.length<LINE then .ok .non (h.set i (.lst (xs++[y]))) else .no|_=>.no)
 |_,_,_=>.no
theorem apk:amz K aep afs:=by
 intro E U H h x dx xs ds Q rx r hr o
 unfold aep at o
 split at o
 .rename_i i y
  cases rx with
  |@ref p _ hp =>
   cases r with
   |cons r1 rs =>
    cases rs
    split at o
    .rename_i xs hx;obtain⟨vs,h3,h4⟩:=hr.lst hp hx
     split at o
     .rename_i hc;exact⟨p,vs,_,rfl,rfl,h3,by rw[h4.len,aow];exact hc,a6d (h4.snoc r1) hr hp .non o⟩
     .exact o.elim
    .exact o.elim
 .exact o.elim
noncomputable def a7l:D->List D->Hd->R D
 |.ref i,[.int j],h=>(match h[i]? with|some (.lst xs)=>(match ixN xs.length j with|some k=>(match xs[k]? with|some y=>if xs.length<=LINE then .ok y (h.set i (.lst (xs.eraseIdx k))) else .no|none=>.no)|none=>.no)|_=>.no)
 |_,_,_=>.no
theorem ago:amz K a7l amh:=by
 intro E U H h x dx xs ds Q rx r hr o
 unfold a7l at o
 split at o
 .rename_i i j
  cases rx with
  |@ref p _ hp =>
   cases r with
   |cons r1 rs =>
    cases r1;cases rs
    split at o
    .rename_i xs hx;obtain⟨vs,h3,h4⟩:=hr.lst hp hx
     split at o
     .rename_i k hk
      split at o
      .rename_i y hy
       split at o
       .rename_i hl;obtain⟨v,h5,h6⟩:=h4.get hy;obtain⟨q1,q2,q3,q4⟩:=aax hk;have hl':xs.length<=16777216:=hl;exact⟨p,vs,j,k,v,rfl,rfl,h3,by omega,by omega,by rw[h4.len];exact q1,h5,a6d (h4.erase k) hr hp h6 o⟩
       .exact o.elim
      .exact o.elim
     .exact o.elim
    .exact o.elim
 .exact o.elim
noncomputable def sMS(g:D->List D->Hd->R D)(f:SE)(k:SA):SE:=λτ h=>(f τ h).bind λd h1=>match d with|.str z=>(k τ h1).bind λds h2=>g (.str z) ds h2|_=>.no
theorem aue(slot:Slot "str" name idn)(hty:typeOf (.builtin idn)=pure (.type "method_descriptor"))(hm:MtR X idn r)(hs:amz X.K g r)(ho:ME X E o fo)(ha:MA X E (e::es) ka)
  (hbase:attributeBase o name X.env (eval o X.env)=eval o X.env:=by rfl)
  (hfew:((backTo cpos (starEach (e::es) X.env)).all (λx => !x.1) && (backToKw cpos (keywordEach [] X.env)).all (λx=>x.1.isSome)
   && decide ((e::es).length+([]:List Keyword).length+(if ([]:List Keyword).isEmpty then 0 else 1)<30))=true:=by rfl)
  (hline:(apos.endLine == cpos.line)=true:=by rfl) (hst:starEach (e::es) X.env=(false,eval e X.env)::starEach es X.env:=by rfl) (hplain:(backTo cpos (starEach es X.env)).any (·.1)=false:=by rfl) :
  ME X E (.Call (.Attribute o name apos) (e::es) [] cpos) (sMS g fo ka):=by
 refine PE.weak (ayd slot hty hm ho ha hbase hfew hline hst hplain) ?_
 rintro σ H Q ⟨U,τ,h,S,Rh,o⟩
 refine⟨U,τ,h,S,Rh,dg o λd h1 U1 H1 v g1 r1 hr1 o1=>?_⟩
 cases r1 with
 |str z=>exact⟨⟨z,rfl⟩,U1,τ,h1,S.mono g1,hr1,dg o1 λds h2 U2 H2 vs g2 r2 hr2 o2=>hs E U2 H2 h2 _ _ vs ds Q (.str z) r2 hr2 o2⟩
 |_=>exact o1.elim
noncomputable def ad4:D->List D->Hd->R D
 |.str T,[.str z],h=>(match z.cps.toList with|[c]=>if c∈T.cps.toList then .ok (.int (ab7 T c)) h else .no|_=>.no)
 |_,_,_=>.no
theorem agp:amz K ad4 (λx xs H Q=>∃T c,x=.str T/\xs=[.str ⟨#[c]⟩]/\c∈T.cps.toList/\Q (.int (ab7 T c)) H):=by
 intro E U H h x dx xs ds Q rx r hr o
 unfold ad4 at o
 split at o
 .cases rx
  cases r with
  |cons r1 rs =>
   cases r1;cases rs
   split at o
   .rename_i c hz
    split at o
    .rename_i hc;exact⟨_,c,rfl,by rw[one_sign hz],hc,ans o (.int _) hr⟩
    .exact o.elim
   .exact o.elim
 .exact o.elim
noncomputable def abg:List D->Option (List Str)
 |[]=>some []
 |.str z::r=>(abg r).map (z::·)
 |_::_=>none
theorem a8e:∀{vs:List V} {xs:List D} {zs:List Str},Reps K U H vs xs->abg xs=some zs->vs=zs.map V.str
 |_,_,_,.nil,e=>by cases e;rfl
 |_,_,zs,.cons (d:=d) r rs,e=>by
  cases r with
  |str z =>
   simp only[abg,aQ]at e;obtain⟨ws,h1,rfl⟩:=e;rw[a8e rs h1];rfl
  |_=>cases e
noncomputable def abh:D->List D->Hd->R D
 |.str sep,[.ref i],h=>(match h[i]? with|some (.lst xs)=>(match abg xs with|some zs=>if (zs.map (·.length)).sum+zs.length*sep.length<=16777216 then .ok (.str (Txt.join sep zs)) h else .no|none=>.no)|_=>.no)
 |.str sep,[.rol xs],h=>(match abg xs with|some zs=>if (zs.map (·.length)).sum+zs.length*sep.length<=16777216 then .ok (.str (Txt.join sep zs)) h else .no|none=>.no)
 |_,_,_=>.no
theorem ak8:amz K abh (λx xs H Q=>∃sep p zs,x=.str sep/\xs=[.ref p]/\SqL K H p (zs.map V.str)/\(zs.map (·.length)).sum+zs.length*sep.length<=16777216/\Q (.str (Txt.join sep zs)) H):=by
 intro E U H h x dx xs ds Q rx r hr o
 unfold abh at o
 split at o
 .rename_i sep i;cases rx
  cases r with
  |cons r1 rs =>
   cases rs
   cases r1 with
   |@ref p _ hp =>
    split at o
    .rename_i xs hx;obtain⟨vs,h3,h4⟩:=hr.lst hp hx
     split at o
     .rename_i zs hz
      split at o
      .rename_i hc;exact⟨sep,p,zs,rfl,rfl,SqL.of (by rw[h3,a8e h4 hz]),hc,ans o (.str _) hr⟩
      .exact o.elim
     .exact o.elim
    .exact o.elim
 .rename_i sep xs;cases rx
  cases r with
  |cons r1 rs =>
   cases rs
   cases r1 with
   |@rol p vs xs hp r =>
    split at o
    .rename_i zs hz
     split at o
     .rename_i hc;exact⟨sep,p,zs,rfl,rfl,by rw[<-a8e r hz];exact hp.l,hc,ans o (.str _) hr⟩
     .exact o.elim
    .exact o.elim
 .exact o.elim
noncomputable def a1l:List D->Hd->R D
 |[.str z],h=>if z.length<=LINE then .ok (.ref h.length) (h++[.lst (a0k z)]) else .no
 |[x],h=>(match ww x h with|some xs=>.ok (.ref h.length) (h++[.lst xs])|none=>.no)
 |_,_=>.no
theorem a7m(z:Str):Reps K U H (a1d z) (a0k z):=by
 unfold a1d a0k
 induction z.cps.toList with
 |nil=>exact .nil
 |cons c cs ih=>exact .cons (.str _) ih
theorem ak9:acv K a1l (λxs H Q=>(∃p ys,xs=[.ref p]/\(SqL K H p ys\/SqT K H p ys)/\∀l,H l=none->Q (.ref l) (upd H l (.lst ys)))\/∃z,xs=[.str z]/\z.length<=sizeLine/\∀l,H l=none->Q (.ref l) (upd H l (.lst (a1d z)))):=by
 intro E U H h xs ds Q r hr o
 cases r with
 |nil=>exact o.elim
 |cons r rs =>
  cases rs with
  |cons _ _=>exact(show False by cases r<;>exact o).elim
  |nil =>
   cases r with
   |str z =>
    by_cases hc:z.length<=LINE
    .simp only[a1l,ai hc]at o;exact .inr ⟨z,rfl,ll hc,ym (a7m z) hr o⟩
    .simp only[a1l,aL hc]at o;exact o.elim
   |@tup p vs xs hp r=>simp only[a1l,ww]at o;exact .inl ⟨p,vs,rfl,.inr (SqT.of hp),ym r hr o⟩
   |@rol p vs xs hp r=>simp only[a1l,ww]at o;exact .inl ⟨p,vs,rfl,.inl hp.l,ym r hr o⟩
   |@ref p j hp =>
    obtain⟨ob,e1,e2⟩:=hr.at hp
    cases ob with
    |lst xs =>
     simp only[a1l,ww,e1]at o;obtain⟨vs,h3,h4⟩:=e2;exact .inl ⟨p,vs,rfl,.inl (SqL.of h3),ym h4 hr o⟩
    |dK _=>simp only[a1l,ww,e1]at o;exact o.elim
    |dT _=>simp only[a1l,ww,e1]at o;exact o.elim
    |ins _ _=>simp only[a1l,ww,e1]at o;exact o.elim
    |dN _=>simp only[a1l,ww,e1]at o;exact o.elim
   |_=>exact o.elim
noncomputable def uc:List D->Hd->R D
 |[.str z],h=>if z.length<=LINE then .ok (.tup (a0k z)) h else .no
 |[x],h=>(match ww x h with|some xs=>.ok (.tup xs) h|none=>.no)
 |_,_=>.no
theorem agq:acv K uc (λxs H Q=>(∃p ys,xs=[.ref p]/\((SqL K H p ys/\∀l,H l=none->Q (.ref l) (upd H l (.tup ys)))\/(SqT K H p ys/\Q (.ref p) H)))\/∃z,xs=[.str z]/\z.length<=sizeLine/\∀l,H l=none->Q (.ref l) (upd H l (.tup (a1d z)))):=by
 intro E U H h xs ds Q r hr o
 cases r with
 |nil=>exact o.elim
 |cons r rs =>
  cases rs with
  |cons _ _=>exact(show False by cases r<;>exact o).elim
  |nil =>
   cases r with
   |str z =>
    by_cases hc:z.length<=LINE
    .simp only[uc,ai hc]at o;exact .inr ⟨z,rfl,ll hc,a2t (a7m z) hr o⟩
    .simp only[uc,aL hc]at o;exact o.elim
   |@tup p vs xs hp r=>simp only[uc,ww]at o;exact .inl ⟨p,vs,rfl,.inr ⟨SqT.of hp,ans o (.tup hp r) hr⟩⟩
   |@rol p vs xs hp r=>simp only[uc,ww]at o;exact .inl ⟨p,vs,rfl,.inl ⟨hp.l,a2t r hr o⟩⟩
   |@ref p j hp =>
    obtain⟨ob,e1,e2⟩:=hr.at hp
    cases ob with
    |lst xs =>
     simp only[uc,ww,e1]at o;obtain⟨vs,h3,h4⟩:=e2;exact .inl ⟨p,vs,rfl,.inl ⟨SqL.of h3,a2t h4 hr o⟩⟩
    |dK _=>simp only[uc,ww,e1]at o;exact o.elim
    |dT _=>simp only[uc,ww,e1]at o;exact o.elim
    |ins _ _=>simp only[uc,ww,e1]at o;exact o.elim
    |dN _=>simp only[uc,ww,e1]at o;exact o.elim
   |_=>exact o.elim
noncomputable def apl:List D->Option (List Bool)
 |[]=>some []
 |.bl z::r=>(apl r).map (z::·)
 |_::_=>none
noncomputable def a9z:List D->Option (List Int)
 |[]=>some []
 |.int z::r=>(a9z r).map (z::·)
 |_::_=>none
theorem abi:∀{vs:List V} {xs:List D} {zs:List Bool},Reps K U H vs xs->apl xs=some zs->vs=zs.map V.bl
 |_,_,_,.nil,e=>by cases e;rfl
 |_,_,zs,.cons (d:=d) r rs,e=>by
  cases r with
  |bl z =>
   simp only[apl,aQ]at e;obtain⟨ws,h1,rfl⟩:=e;rw[abi rs h1];rfl
  |_=>cases e
theorem a8f:∀{vs:List V} {xs:List D} {zs:List Int},Reps K U H vs xs->a9z xs=some zs->vs=zs.map V.int
 |_,_,_,.nil,e=>by cases e;rfl
 |_,_,zs,.cons (d:=d) r rs,e=>by
  cases r with
  |int z =>
   simp only[a9z,aQ]at e;obtain⟨ws,h1,rfl⟩:=e;rw[a8f rs h1];rfl
  |_=>cases e
theorem aka(bs:List Bool):apl (bs.map D.bl)=some bs:=by
 induction bs with
 |nil=>rfl
 |cons b bs ih=>simp[apl,ih]
noncomputable def aiz:List D->Hd->R D
 |[.ref i],h=>(match h[i]? with|some (.lst xs)=>(match apl xs with|some bs=>.ok (.bl (bs.all id)) h|none=>.no)|_=>.no)
 |[.rol xs],h=>(match apl xs with|some bs=>.ok (.bl (bs.all id)) h|none=>.no)
 |_,_=>.no
theorem apm:acv K aiz (λxs H Q=>∃(p:Addr) (bs:List Bool),xs=[.ref p]/\SqL K H p (bs.map V.bl)/\Q (.bl (bs.all id)) H):=by
 intro E U H h xs ds Q r hr o
 unfold aiz at o
 split at o
 .cases r with
  |cons r rs =>
   cases rs
   cases r with
   |@ref p _ hp =>
    split at o
    .rename_i xs hx;obtain⟨vs,h3,h4⟩:=hr.lst hp hx
     split at o
     .rename_i bs hb;exact⟨p,bs,rfl,SqL.of (by rw[h3,abi h4 hb]),ans o (.bl _) hr⟩
     .exact o.elim
    .exact o.elim
 .cases r with
  |cons r rs =>
   cases rs
   cases r with
   |@rol p vs xs hp r =>
    split at o
    .rename_i bs hb;exact⟨p,bs,rfl,by rw[<-abi r hb];exact hp.l,ans o (.bl _) hr⟩
    .exact o.elim
 .exact o.elim
noncomputable def a76:List D->Hd->R D
 |[.ref i],h=>(match h[i]? with|some (.lst xs)=>(match a9z xs with|some bs=>.ok (.int bs.sum) h|none=>.no)|_=>.no)
 |[.rol xs],h=>(match a9z xs with|some bs=>.ok (.int bs.sum) h|none=>.no)
 |_,_=>.no
theorem apn:acv K a76 (λxs H Q=>∃(p:Addr) (ns:List Int),xs=[.ref p]/\SqL K H p (ns.map V.int)/\Q (.int ns.sum) H):=by
 intro E U H h xs ds Q r hr o
 unfold a76 at o
 split at o
 .cases r with
  |cons r rs =>
   cases rs
   cases r with
   |@ref p _ hp =>
    split at o
    .rename_i xs hx;obtain⟨vs,h3,h4⟩:=hr.lst hp hx
     split at o
     .rename_i bs hb;exact⟨p,bs,rfl,SqL.of (by rw[h3,a8f h4 hb]),ans o (.int _) hr⟩
     .exact o.elim
    .exact o.elim
 .cases r with
  |cons r rs =>
   cases rs
   cases r with
   |@rol p vs xs hp r =>
    split at o
    .rename_i bs hb;exact⟨p,bs,rfl,by rw[<-a8f r hb];exact hp.l,ans o (.int _) hr⟩
    .exact o.elim
 .exact o.elim
noncomputable def a2u(d:D)(h:Hd):R D:=match d with|.str z=>if z.length<=1000 then .ok (.int ((a5h z.cps.toList).length:Nat)) h else .no|_=>.no
theorem agr(hc:X.calm=true)(hg1:Gl X "len")(hm1:X.mg "len" = none)(hg2:Gl X "set")(hm2:X.mg "set" = none)(ha:ME X E e fa)
  (h1:starEach [e] X.env=[(false,eval e X.env)]:=by rfl) (h2:starEach [.Call (.Name "set" p2) [e] [] pos2] X.env=[(false,eval (.Call (.Name "set" p2) [e] [] pos2) X.env)]:=by rfl) :
  ME X E (.Call (.Name "len" p1) [.Call (.Name "set" p2) [e] [] pos2] [] pos1) (s1 a2u fa):=by
 have q:=a3g (pos:=pos1) (p:=p1) call_len_set hg1 hm1 ag8 (yj (a9d (pos:=pos2) (p:=p2) (aeg hc) hg2 hm2 ata (yj ha a4y (by rw[h1];rfl)) (by decide) (by decide) (by rw[h1];rfl) rfl) a4y (by rw[h2];rfl)) (by decide) (by decide) (by rw[h2];rfl) rfl
 refine PE.weak q ?_
 rintro σ H Q ⟨U,τ,h,S,Rh,o⟩
 refine⟨U,τ,h,S,Rh,dg o λd h1 U1 H1 v g1 r1 hr1 o1=>?_⟩
 cases r1 with
 |str z =>
  by_cases hz:z.length<=1000
  .simp only[a2u,ai hz]at o1;refine⟨z,rfl,hz,λl hl=>⟨l,_,rfl,oh,o1 U1 _ _ (a1i hl _) (.int _) (hr1.aside hl _)⟩⟩
  .simp only[a2u,aL hz]at o1;exact o1.elim
 |_=>exact o1.elim
end
end MI
theorem L2.Room.u(r:L2.Room k A):A.units+64<PySem.cLine:=r.units
namespace MI
open L2
mutual
def eqD:D->D->Bool
 |.non,.non=>true
 |.bl a,.bl b=>a == b
 |.bl a,.int b=>(if a then 1 else 0) == b
 |.int a,.bl b=>a == (if b then 1 else 0)
 |.int a,.int b=>a == b
 |.str a,.str b=>a == b
 |.tup xs,.tup ys=>aa0 xs ys
 |_,_=>false
def aa0:List D->List D->Bool
 |[],[]=>true
 |x::xs,y::ys=>eqD x y && aa0 xs ys
 |_,_=>false
end
noncomputable def pur:Nat->D->Bool
 |_,.non=>true
 |_,.bl _=>true
 |_,.int _=>true
 |_,.str _=>true
 |n+1,.tup xs=>xs.all (pur n)
 |_,_=>false
theorem ad5:∀{m:Nat} {d:D},n<=m->pur n d=true->pur m d=true:=by
 induction n with
 |zero=>intro m d _ h;cases d<;>first|(cases m<;>rfl)|(cases h;done)
 |succ n ih =>
  intro m d hm h
  cases m with
  |zero=>omega
  |succ m =>
   cases d with
   |tup xs =>
    simp only[pur,aO]at h ⊢;exact λx hx=>ih (by omega) (h x hx)
   |_=>first|rfl|(cases h;done)
noncomputable def pairE(xs ys:List D)(j:Nat):Bool:=match xs[j]?,ys[j]? with|some x,some y=>eqD x y|_,_=>false
theorem a3q:∀xs ys:List D,((List.range (min xs.length ys.length)).all (pairE xs ys) && xs.length == ys.length)=aa0 xs ys
 |[],[]=>by simp[aa0]
 |[],_::_=>by simp[aa0]
 |_::_,[]=>by simp[aa0]
 |x::xs,y::ys=>by
  have ih:=a3q xs ys;rw[show min (x::xs).length (y::ys).length=min xs.length ys.length+1 by simp only[aM];omega,List.range_succ_eq_map]
  rw[bD,dJ];have e:(pairE (x::xs) (y::ys) ∘ Nat.succ)=pairE xs ys:=by funext j;simp[pairE]
  rw[e];simp only[aa0];rw[<-ih];have e2:((x::xs).length == (y::ys).length)=(xs.length == ys.length):=by simp
  rw[e2,Bool.and_assoc];rfl
section
variable{K:Fg}{U:List Addr}{H:Hp}
theorem a4n{xs:List D}(r:Rep K U H v (.tup xs)):∃a vs,v=.ref a/\H a=some (.tup vs)/\Reps K U H vs xs:=by cases r with|@tup a vs _ h rs=>exact⟨a,vs,rfl,h,rs⟩
theorem an0(r:Rep K U H v d)(q:Rep K U H v e)(f:zr d=true)(g:zr e=true):eqD d e=true:=by
 have h:=ak2 r f;have h':=ak2 q g
 cases d<;>first|(cases h;done)|(cases h;cases e<;>first|(cases h';done)|(cases h';simp[eqD]))
theorem a0m(r:Rep K U H v d)(p:pur n d=true):(∃xs,d=.tup xs)\/(a2q v=true/\zr d=true):=by
 cases r<;>first|exact .inr ⟨rfl,rfl⟩|exact .inl ⟨_,rfl⟩|(cases n<;>cases p)
theorem a8g(r:Rep K U H x d)(q:Rep K U H y e)(f:zr d=true)(g:zr e=true):eqV x y=eqD d e:=by
 refine fvs (P:=λd x c y=>eqV x y=eqD d c) (λd x e y h h'=>?_) r q f g
 cases d<;>first|(cases h;done)|(cases h;cases e<;>first|(cases h';done)|(cases h';first|rfl|(simp[eqV,eqD];done)))
theorem akb:∀(n:Nat) {v:V} {d e:D},Rep K U H v d->Rep K U H v e->pur n d=true->pur n e=true->eqD d e=true:=by
 intro n
 induction n with
 |zero =>
  intro v d e r q p1 p2
  rcases a0m r p1 with⟨xs,rfl⟩|⟨f1,g1⟩
  .cases p1
  rcases a0m q p2 with⟨xs,rfl⟩|⟨f2,g2⟩
  .cases p2
  exact an0 r q g1 g2
 |succ n ih =>
  intro v d e r q p1 p2
  rcases a0m r p1 with⟨xs,rfl⟩|⟨f1,g1⟩
  .rcases a0m q p2 with⟨ys,rfl⟩|⟨f2,g2⟩
   .obtain⟨a,vs,rfl,h,rs⟩:=a4n r;obtain⟨b,us,z,h',qs⟩:=a4n q;cases z
    rw[h]at h';cases h'
    simp only[eqD];simp only[pur,aO]at p1 p2
    clear h r q
    induction rs using Reps.rec (motive_1:=λ_ _ _=>True) generalizing ys with
    |nil=>cases qs;rfl
    |cons r rs _ ih2 =>
     cases qs with
     |cons q qs =>
      simp only[aa0,af];exact⟨ih r q (p1 _ (aX ..)) (p2 _ (aX ..)),ih2 _ qs (λx hx=>p1 x (aP _ hx)) (λx hx=>p2 x (aP _ hx))⟩
    |_=>trivial
   .obtain⟨a,vs,rfl,h,rs⟩:=a4n r;cases f2
  .rcases a0m q p2 with⟨ys,rfl⟩|⟨f2,g2⟩
   .obtain⟨a,vs,rfl,h,rs⟩:=a4n q;cases f1
   .exact an0 r q g1 g2
open SeqAt in
theorem an1{s:Shared}(hok:HOk P w H s.heap):∀(n:Nat) (A:Around) {x y:V} {u v:Value} {d e:D},Rep K U H x d->Rep K U H y e->RelV x u->RelV y v->pur n d=true->pur n e=true->A.units+n<cLine->EqAt A s u v (eqD d e):=by
 intro n
 induction n with
 |zero =>
  intro A x y u v d e r q rx ry p1 p2 hu
  rcases a0m r p1 with⟨xs,rfl⟩|⟨f1,f2⟩
  .cases p1
  .rcases a0m q p2 with⟨xs,rfl⟩|⟨g1,g2⟩
   .cases p2
   .rw[<-a8g r q f2 g2];exact afr rx ry f1 g1
 |succ n ih =>
  intro A x y u v d e r q rx ry p1 p2 hu
  rcases a0m r p1 with⟨xs,rfl⟩|⟨f1,f2⟩
  .cases r with
   |@tup a vs _ ha rs =>
    cases rx
    obtain⟨_,its,r1,t1⟩:=(Rd.of ha).ok hok;have t1:=t1.r
    rcases a0m q p2 with⟨ys,rfl⟩|⟨g1,g2⟩
    .cases q with
     |@tup b us _ hb qs =>
      cases ry
      obtain⟨_,its2,r2,t2⟩:=(Rd.of hb).ok hok;have t2:=t2.r
      by_cases hab:a=b
      .subst hab;rw[akb (n+1) (.tup ha rs) (.tup hb qs) p1 p2];exact EqAt.same _
      .have l1:its.toArray.size=xs.length:=by rw[ax,<-r1.length,rs.len]
       have l2:its2.toArray.size=ys.length:=by rw[ax,<-r2.length,qs.len]
       have:=RcAt.tuples (A:=A) (s:=s) (e:=pairE xs ys) t1 t2 (by omega) (λj h1 h2=>by
        have j1:j<xs.length:=by omega
        have j2:j<ys.length:=by omega
        obtain⟨v1,e1,q1⟩:=rs.get (a6 j1);obtain⟨v2,e2,q2⟩:=qs.get (a6 j2);obtain⟨u1,e3,q3⟩:=r1.get e1;obtain⟨u2,e4,q4⟩:=r2.get e2;have f1:its.toArray[j]=u1:=by simpa using (ae.mp e3).2
        have f2:its2.toArray[j]=u2:=by simpa using (ae.mp e4).2
        have pe:pairE xs ys j=eqD xs[j] ys[j]:=by simp[pairE,a6 j1,a6 j2]
        rw[f1,f2,pe];simp only[pur,aO]at p1 p2;exact ih A.in1 q1 q2 q3 q4 (p1 _ (bo j1)) (p2 _ (bo j2)) (by rw[eN];omega))
       rw[l1,l2,a3q]at this;exact EqAt.of_refs hab this
    .have e0:eqD (.tup xs) e=false:=by cases e<;>first|rfl|(cases g2;done)
     rw[e0]
     cases y with
     |non=>cases ry;exact EqAt.tuple_none t1 (by omega)
     |bl b=>cases ry;exact EqAt.tuple_bool b t1 (by omega)
     |int b=>obtain⟨t,rfl⟩:=ry;exact EqAt.tuple_int b t t1 (by omega)
     |str b=>obtain⟨t,rfl⟩:=ry;exact EqAt.tuple_str b t t1 (by omega)
     |_=>cases g1
  .rcases a0m q p2 with⟨ys,rfl⟩|⟨g1,g2⟩
   .cases q with
    |@tup b us _ hb qs =>
     cases ry
     obtain⟨_,its2,r2,t2⟩:=(Rd.of hb).ok hok;have t2:=t2.r;have e0:eqD d (.tup ys)=false:=by cases d<;>first|rfl|(cases f2;done)
     rw[e0]
     cases x with
     |non=>cases rx;exact EqAt.none_tuple t2 (by omega)
     |bl b=>cases rx;exact EqAt.bool_tuple b t2 (by omega)
     |int b=>obtain⟨t,rfl⟩:=rx;exact EqAt.int_tuple b t t2 (by omega)
     |str b=>obtain⟨t,rfl⟩:=rx;exact EqAt.str_tuple b t t2 (by omega)
     |_=>cases f1
   .rw[<-a8g r q f2 g2];exact afr rx ry f1 g1
open SeqAt in
theorem auf(ry:RelV y u)(rx:RelV x v)(fy:a2q y=true)(fx:a2q x=true):RcAt A s u v (eqV y x):=by
 cases y with
 |non =>
  cases ry
  cases x with
  |non=>cases rx;exact RcAt.none_none
  |bl b=>cases rx;exact RcAt.none_bool b
  |int b=>obtain⟨t,rfl⟩:=rx;exact RcAt.none_int b t
  |str b=>obtain⟨t,rfl⟩:=rx;exact RcAt.none_str b t
  |_=>cases fx
 |bl a =>
  cases ry
  cases x with
  |non=>cases rx;exact RcAt.bool_none a
  |bl b=>cases rx;exact RcAt.bool_bool a b
  |int b=>obtain⟨t,rfl⟩:=rx;exact RcAt.bool_int a b t
  |str b=>obtain⟨t,rfl⟩:=rx;exact RcAt.bool_str a b t
  |_=>cases fx
 |int a =>
  obtain⟨t',rfl⟩:=ry
  cases x with
  |non=>cases rx;exact RcAt.int_none a t'
  |bl b=>cases rx;exact RcAt.int_bool a t' b
  |int b=>obtain⟨t,rfl⟩:=rx;exact RcAt.int_int a t' b t
  |str b=>obtain⟨t,rfl⟩:=rx;exact RcAt.int_str a t' b t
  |_=>cases fx
 |str a =>
  obtain⟨t',rfl⟩:=ry
  cases x with
  |non=>cases rx;exact RcAt.str_none a t'
  |bl b=>cases rx;exact RcAt.str_bool a t' b
  |int b=>obtain⟨t,rfl⟩:=rx;exact RcAt.str_int a t' b t
  |str b=>obtain⟨t,rfl⟩:=rx;exact RcAt.str_str a t' b t
  |_=>cases fx
 |_=>cases fy
open SeqAt in
theorem akc(ry:RelV y u)(rx:RelV x v)(fy:a2q y=true)(fx:a2q x=true):RcNeAt A s u v (!eqV y x):=by
 cases y with
 |non =>
  cases ry
  cases x with
  |non=>cases rx;exact RcNeAt.none_none
  |bl b=>cases rx;exact RcNeAt.none_bool b
  |int b=>obtain⟨t,rfl⟩:=rx;exact RcNeAt.none_int b t
  |str b=>obtain⟨t,rfl⟩:=rx;exact RcNeAt.none_str b t
  |_=>cases fx
 |bl a =>
  cases ry
  cases x with
  |non=>cases rx;exact RcNeAt.bool_none a
  |bl b=>cases rx;exact RcNeAt.bool_bool a b
  |int b=>obtain⟨t,rfl⟩:=rx;exact RcNeAt.bool_int a b t
  |str b=>obtain⟨t,rfl⟩:=rx;exact RcNeAt.bool_str a b t
  |_=>cases fx
 |int a =>
  obtain⟨t',rfl⟩:=ry
  cases x with
  |non=>cases rx;exact RcNeAt.int_none a t'
  |bl b=>cases rx;exact RcNeAt.int_bool a t' b
  |int b=>obtain⟨t,rfl⟩:=rx;exact RcNeAt.int_int a t' b t
  |str b=>obtain⟨t,rfl⟩:=rx;exact RcNeAt.int_str a t' b t
  |_=>cases fx
 |str a =>
  obtain⟨t',rfl⟩:=ry
  cases x with
  |non=>cases rx;exact RcNeAt.str_none a t'
  |bl b=>cases rx;exact RcNeAt.str_bool a t' b
  |int b=>obtain⟨t,rfl⟩:=rx;exact RcNeAt.str_int a t' b t
  |str b=>obtain⟨t,rfl⟩:=rx;exact RcNeAt.str_str a t' b t
  |_=>cases fx
 |_=>cases fy
open SeqAt in
theorem tops{s:Shared}{A:Around}(hok:HOk P w H s.heap)(r:Rep K U H x d)(q:Rep K U H y e)(rx:RelV x u)(ry:RelV y v)(p1:pur 60 d=true)(p2:pur 60 e=true)(hu:A.units+64<cLine) :
  RcAt A s u v (eqD d e)/\RcNeAt A s u v (!eqD d e):=by
 rcases a0m r p1 with⟨xs,rfl⟩|⟨f1,f2⟩
 .cases r with
  |@tup a vs _ ha rs =>
   cases rx
   obtain⟨_,its,r1,t1⟩:=(Rd.of ha).ok hok;have t1:=t1.r
   rcases a0m q p2 with⟨ys,rfl⟩|⟨g1,g2⟩
   .cases q with
    |@tup b us _ hb qs =>
     cases ry
     obtain⟨_,its2,r2,t2⟩:=(Rd.of hb).ok hok;have t2:=t2.r;have l1:its.toArray.size=xs.length:=by rw[ax,<-r1.length,rs.len]
     have l2:its2.toArray.size=ys.length:=by rw[ax,<-r2.length,qs.len]
     have step:∀j (h1:j<its.toArray.size) (h2:j<its2.toArray.size),EqAt A.in1 s its.toArray[j] its2.toArray[j] (pairE xs ys j):=λj h1 h2=>by
      have j1:j<xs.length:=by omega
      have j2:j<ys.length:=by omega
      obtain⟨v1,e1,q1⟩:=rs.get (a6 j1);obtain⟨v2,e2,q2⟩:=qs.get (a6 j2);obtain⟨u1,e3,q3⟩:=r1.get e1;obtain⟨u2,e4,q4⟩:=r2.get e2;have f1:its.toArray[j]=u1:=by simpa using (ae.mp e3).2
      have f2:its2.toArray[j]=u2:=by simpa using (ae.mp e4).2
      have pe:pairE xs ys j=eqD xs[j] ys[j]:=by simp[pairE,a6 j1,a6 j2]
      rw[f1,f2,pe];simp only[pur,aO]at p1 p2;exact an1 hok 59 A.in1 q1 q2 q3 q4 (p1 _ (bo j1)) (p2 _ (bo j2)) (by rw[eN];omega)
     have c1:=RcAt.tuples (A:=A) (s:=s) (e:=pairE xs ys) t1 t2 (by omega) step
     have c2:=RcNeAt.tuples (A:=A) (s:=s) (e:=pairE xs ys) t1 t2 (by omega) step
     rw[l1,l2,a3q]at c1 c2;exact⟨c1,c2⟩
   .have e0:eqD (.tup xs) e=false:=by cases e<;>first|rfl|(cases g2;done)
    rw[e0]
    cases y with
    |non=>cases ry;exact⟨RcAt.tuple_none t1 (by omega),RcNeAt.tuple_none t1 (by omega)⟩
    |bl b=>cases ry;exact⟨RcAt.tuple_bool b t1 (by omega),RcNeAt.tuple_bool b t1 (by omega)⟩
    |int b=>obtain⟨t,rfl⟩:=ry;exact⟨RcAt.tuple_int b t t1 (by omega),RcNeAt.tuple_int b t t1 (by omega)⟩
    |str b=>obtain⟨t,rfl⟩:=ry;exact⟨RcAt.tuple_str b t t1 (by omega),RcNeAt.tuple_str b t t1 (by omega)⟩
    |_=>cases g1
 .rcases a0m q p2 with⟨ys,rfl⟩|⟨g1,g2⟩
  .cases q with
   |@tup b us _ hb qs =>
    cases ry
    obtain⟨_,its2,r2,t2⟩:=(Rd.of hb).ok hok;have t2:=t2.r;have e0:eqD d (.tup ys)=false:=by cases d<;>first|rfl|(cases f2;done)
    rw[e0]
    cases x with
    |non=>cases rx;exact⟨RcAt.none_tuple t2 (by omega),RcNeAt.none_tuple t2 (by omega)⟩
    |bl b=>cases rx;exact⟨RcAt.bool_tuple b t2 (by omega),RcNeAt.bool_tuple b t2 (by omega)⟩
    |int b=>obtain⟨t,rfl⟩:=rx;exact⟨RcAt.int_tuple b t t2 (by omega),RcNeAt.int_tuple b t t2 (by omega)⟩
    |str b=>obtain⟨t,rfl⟩:=rx;exact⟨RcAt.str_tuple b t t2 (by omega),RcNeAt.str_tuple b t t2 (by omega)⟩
    |_=>cases f1
  .rw[<-a8g r q f2 g2];exact⟨auf rx ry f1 g1,akc rx ry f1 g1⟩
noncomputable def b04(K:Fg):R2:=λx y H Q=>∃U d e,Rep K U H x d/\Rep K U H y e/\pur 60 d=true/\pur 60 e=true/\Q (.bl (eqD d e)) H
noncomputable def b05(K:Fg):R2:=λx y H Q=>∃U d e,Rep K U H x d/\Rep K U H y e/\pur 60 d=true/\pur 60 e=true/\Q (.bl (!eqD d e)) H
theorem an2{X:Cx}(hu:X.A.units+64<cLine):OpR X (compareOp .Eq) (b04 X.K):=by
 intro aA s σ H x y v u Q I rx ry h
 obtain⟨U,d,e,r,q,p1,p2,hq⟩:=h;exact(tops (A:=X.A) I.hok r q rx ry p1 p2 hu).1 X.prog X.w X.xe _ ⟨.bl _,H,I,rfl,hq⟩
theorem an3{X:Cx}(hu:X.A.units+64<cLine):OpR X (compareOp .NotEq) (b05 X.K):=by
 intro aA s σ H x y v u Q I rx ry h
 obtain⟨U,d,e,r,q,p1,p2,hq⟩:=h;exact(tops (A:=X.A) I.hok r q rx ry p1 p2 hu).2 X.prog X.w X.xe _ ⟨.bl _,H,I,rfl,hq⟩
noncomputable def hEq(x y:D)(h:Hd):R D:=if pur 60 x=true/\pur 60 y=true then .ok (.bl (eqD x y)) h else .no
noncomputable def hNe(x y:D)(h:Hd):R D:=if pur 60 x=true/\pur 60 y=true then .ok (.bl (!eqD x y)) h else .no
theorem ags:a0j K hEq (b04 K):=by
 intro E U H h x y dx dy Q rx ry hr o
 unfold hEq at o
 split at o
 .rename_i hc;exact⟨U,dx,dy,rx,ry,hc.1,hc.2,ans o (.bl _) hr⟩
 .exact o.elim
theorem agt:a0j K hNe (b05 K):=by
 intro E U H h x y dx dy Q rx ry hr o
 unfold hNe at o
 split at o
 .rename_i hc;exact⟨U,dx,dy,rx,ry,hc.1,hc.2,ans o (.bl _) hr⟩
 .exact o.elim
end
section
variable{X:Cx}{E:XD}{K:Fg}
noncomputable def aeq:SE:=λ_ h=>.ok (.ref h.length) (h++[.dK []])
theorem apo:ME X E (.Dict [] [] pos) aeq:=by
 refine PE.weak ajo λσ H Q ⟨U,τ,h,S,Rh,o⟩=>λp hp=>?_;exact o (U++[p]) _ _ (acu hp _) (.ref (by rw[aK (by rw[Rh.len];exact a8 _),Rh.len];simp)) (Rh.add hp ⟨[],oh,rfl,.nil⟩)
noncomputable def a1m:D->D->Hd->R D
 |.int i,.int j,h=>.ok (.int (i+j)) h
 |.str x,.str y,h=>if x.length+y.length<=LINE then .ok (.str (x++y)) h else .no
 |_,_,_=>.no
theorem ad6:a0j K a1m (λx y H Q=>rI0 (λi j=>.int (i+j)) x y H Q\/∃i j,x=.str i/\y=.str j/\i.length+j.length<=sizeLine/\Q (.str (i++j)) H):=by
 intro E U H h x y dx dy Q rx ry hr o
 cases rx with
 |int i =>
  cases ry with
  |int j=>exact .inl ⟨i,j,rfl,rfl,ans o (.int _) hr⟩
  |_=>exact o.elim
 |str i =>
  cases ry with
  |str j =>
   by_cases hc:i.length+j.length<=LINE
   .simp only[a1m,ai hc]at o;exact .inr ⟨i,j,rfl,rfl,ll hc,ans o (.str _) hr⟩
   .simp only[a1m,aL hc]at o;exact o.elim
  |_=>exact o.elim
 |_=>exact o.elim
theorem auh:bootBuiltins "max" = some (.builtin "max"):=by first|exact PySem.boot_max|exact PyProof.Rows.boot_max
theorem apq:bootBuiltins "bool" = some (.type "bool"):=by first|exact PySem.boot_bool|exact PyProof.Rows.boot_bool
theorem aui:bootBuiltins "sum" = some (.builtin "sum"):=by first|exact PySem.boot_sum|exact PyProof.Rows.boot_sum
theorem akd(h1:MG X E e g)(h2:MGs X E es ks)(hs:(assignEach (e::es) X.env).map (·.2)=assign e X.env::(assignEach es X.env).map (·.2):=by rfl):MGs X E (e::es) (a4m g ks) :=
 PGs.weak (a3f h1 h2 hs) λvs σ H Q q=>ak0 q
end
end MI
namespace ZP
open PySem.Builtin PySem.Builtin.SmallTypes
section
variable{prog:Program}{w:World}{A:Around}{E:Value->Shared->Prop}{s:Shared}{z TI TO i1 i2:Addr}{p q:List Addr}{n1 n2 k:Nat}{P1 P2:Nat->Value->Prop}{S1 S2:Nat->Heap->Prop}{a b:Value}
theorem far{D:Draws prog w A i1 p n1 P1 S1}(sb:Heap.SameBut c h h')(nc:c∉p)(st:S1 k h):S1 k h':=D.frame _ _ _ st λx hx o e=>sb.extBut x o (λy=>nc (y ▸ hx)) e
end
end ZP
namespace MI
open L2 ZP
def srcOf(d:D)(h:Hd):Option (List D×(Hd->Prop)):=match d with
 |.tup xs=>some (xs,λ_=>True)
 |.rol xs=>some (xs,λ_=>True)
 |.str x=>some (a0k x,λ_=>True)
 |.ref i=>(match h[i]? with|some (.lst xs)=>some (xs,λh=>h[i]? = some (.lst xs))|_=>none)
 |_=>none
noncomputable def ayl(x y:D)(h:Hd):R Itm:=match srcOf x h,srcOf y h with
 |some (xs,c1),some (ys,c2)=>.ok ⟨(xs.zip ys).map λp=>.tup [p.1,p.2],λh=>c1 h/\c2 h⟩ h
 |_,_=>.no
noncomputable def b06(f g:SE):SI:=λτ h=>(f τ h).bind λx h1=>(g τ h1).bind λy h2=>ayl x y h2
end MI
namespace MI
open L2
section
variable{P:Program}{w:World}{K:Fg}{mg:Str->Option Value}{base:Heap}
theorem aer:FnOk P w K mg base CX0 k f fd ps (a0h K ps.length λ_ _=>.no) :=
 ⟨λvs H Q E h=>h.1,λA outer s H args us vs Q E hr he hb hv hs=>by obtain⟨_,U,ds,h,_,_,o⟩:=hs;exact o.elim⟩
end
def FrzOf(L:List Addr)(H H2:Hp):Prop:=∀a,(a∉L->H2 a=H a)/\(a∈L->∃o u,H a=some u/\H2 a=some (.frz o u))
def aa1(H:Hp)(L:List Addr):Prop:=∀a∈L,(∃xs,H a=some (.lst xs))\/(∃kvs,H a=some (.dK kvs))\/(∃kvs,H a=some (.dT kvs))\/(∃C dx fs,H a=some (.ins C dx fs))\/∃φ,H a=some (.ext φ)
def still:HO->Prop
 |.lst _=>False|.dK _=>False|.dT _=>False|.ins _ _ _=>False|.ext _=>False
 |_=>True
theorem FrzOf.still(f:FrzOf L H H2)(ab:aa1 H L)(e:H a=some u)(st:MI.still u):H2 a=some u:=by
 rw[(f a).1 λz=>?_]
 .exact e
 .rcases ab a z with⟨_,q⟩|⟨_,q⟩|⟨_,q⟩|⟨_,_,_,q⟩|⟨_,q⟩<;>(rw[e]at q;cases q;exact st)
theorem Inv.frz{X:Cx}{aA:List (Addr×Obj)}{σ:St}{H:Hp}{s:Shared}{L:List Addr}(I:Inv X aA σ H s)(ab:aa1 H L):∃H2,FrzOf L H H2/\Inv X aA σ H2 s:=by
 have obj:∀a∈L,∀u,H a=some u->∃o,s.heap.get? a=some o:=λa ha u e=>by
  rcases ab a ha with⟨_,q⟩|⟨_,q⟩|⟨_,q⟩|⟨_,_,_,q⟩|⟨_,q⟩
  .obtain⟨_,_,_,_,z⟩:=I.hok a _ q;exact⟨_,z⟩
  .obtain⟨_,_,_,_,z⟩:=I.hok a _ q;obtain⟨o,_,_,z,_⟩:=z;exact⟨o,z⟩
  .obtain⟨_,_,_,_,o,_,_,z,_⟩:=I.hok a _ q;exact⟨o,z⟩
  .obtain⟨_,_,_,z,_⟩:=I.hok a _ q;exact⟨_,z⟩
  .obtain⟨_,z,_⟩:=I.hok a _ q;exact z
 let H2:Hp:=λa=>if a∈L then (match s.heap.get? a,H a with|some o,some u=>some (.frz o u)|_,w=>w) else H a
 have f:FrzOf L H H2:=λa=>⟨λh=>by simp[H2,h],λh=>by
  obtain⟨u,e⟩:∃u,H a=some u:=by
   rcases ab a h with⟨_,q⟩|⟨_,q⟩|⟨_,q⟩|⟨_,_,_,q⟩|⟨_,q⟩<;>exact⟨_,q⟩
  obtain⟨o,eo⟩:=obj a h u e;exact⟨o,u,e,by simp[H2,h,e,eo]⟩⟩
 refine⟨H2,f,?_⟩;have mv:∀a u,ObjOk X.prog X.w H s.heap a u->ObjOk X.prog X.w H2 s.heap a u:=λa u x=>x.stay (λb v _ q=>q) (λc q=>f.still ab q True.intro) λc xs q=>f.still ab q True.intro;have ok:HOk X.prog X.w H2 s.heap:=λa u e=>by
  by_cases hl:a∈L
  .obtain⟨u0,e0⟩:∃u,H a=some u:=by
    rcases ab a hl with⟨_,q⟩|⟨_,q⟩|⟨_,q⟩|⟨_,_,_,q⟩|⟨_,q⟩<;>exact⟨_,q⟩
   obtain⟨o,eo⟩:=obj a hl u0 e0;have e':H2 a=some (.frz o u0):=by simp[H2,hl,e0,eo]
   rw[e']at e;cases e
   exact⟨eo,mv a u0 (I.hok a u0 e0)⟩
  .rw[(f a).1 hl]at e;exact mv a u (I.hok a u e)
 have fn:∀b,H b=none->H2 b=none:=λb n=>by
  rw[(f b).1 λz=>?_]
  .exact n
  .rcases ab b z with⟨_,q⟩|⟨_,q⟩|⟨_,q⟩|⟨_,_,_,q⟩|⟨_,q⟩<;>(rw[n]at q;cases q)
 have un:Un X.fs [] H H2 s.heap s.heap:=⟨λb o q _ _ _=>q,λb o q _ _ _=>⟨o.slots,q⟩,λb o _ n _=>fn b n,λb o q _=>⟨o,q⟩,λb xs q=>f.still ab q True.intro,λb o u q=>f.still ab q True.intro,λb ps q=>⟨#[],by rw[f.still ab q True.intro];simp⟩⟩
 exact I.un (t':=s.toks) un ok
theorem a7n(h:PE X e t):PE X e (λσ H Q=>t σ H λv H1=>∃L,aa1 H1 L/\∀H2,FrzOf L H1 H2->Q v H2):=λaA s σ H Q I q =>
 thn (h aA s σ H _ I q) λu s' ⟨v,H1,I1,r,L,ab,k⟩=>let ⟨H2,f,I2⟩:=Inv.frz I1 ab; ⟨v,H2,I2,r,k H2 f⟩
noncomputable def a1h{α β:Type}(f:α->Option β):List α->Option (List β)
 |[]=>some []
 |x::xs=>match f x,a1h f xs with|some y,some ys=>some (y::ys)|_,_=>none
open Classical in
def a6f(n:Nat)(h:Hd):Nat->D->Option D
 |0,_=>none
 |k+1,d=>if clo n d then some d else match d with
  |.tup xs=>(a1h (a6f n h k) xs).map .tup
  |.rol xs=>(a1h (a6f n h k) xs).map .rol
  |.scr xs=>(a1h (a6f n h k) xs).map .scr
  |.rod ks xs=>(a1h (a6f n h k) xs).map (.rod ks)
  |.rdT ks xs=>(a1h (a6f n h k) xs).map (.rdT ks)
  |.ins c ks xs=>(a1h (a6f n h k) xs).map (.ins c ks)
  |.ref i=>match h[i]? with
   |some (.lst xs)=>(a1h (a6f n h k) xs).map .rol
   |some (.dK kvs)=>(a1h (a6f n h k) (kvs.map (·.2))).map (.rod (kvs.map (·.1)))
   |some (.dT kvs)=>(a1h (a6f n h k) (kvs.map (·.2))).map (.rdT (kvs.map (·.1)))
   |some (.ins c kvs)=>(a1h (a6f n h k) (kvs.map (·.2))).map (.ins c (kvs.map (·.1)))
   |some (.dN _)=>none
   |none=>none
  |_=>none
open Classical in
def auj(n:Nat)(h:Hd)(k:Nat)(o:O):Option O:=if wg n o then some o else match o with
 |.lst xs=>(a1h (a6f n h k) xs).map .lst
 |.dK kvs=>(a1h (a6f n h k) (kvs.map (·.2))).map λys=>.dK ((kvs.map (·.1)).zip ys)
 |.dT kvs=>(a1h (a6f n h k) (kvs.map (·.2))).map λys=>.dT ((kvs.map (·.1)).zip ys)
 |.ins c kvs=>(a1h (a6f n h k) (kvs.map (·.2))).map λys=>.ins c ((kvs.map (·.1)).zip ys)
 |.dN _=>none
abbrev FU:Nat:=20
def aa2(n:Nat):R D->R D
 |.ok d h1=>match a6f n h1 FU d,a1h (auj n h1 FU) (h1.take n) with|some d',some g=>.ok d' g|_,_=>.no
 |_=>.no
open Classical in
def arh(n:Nat):R D->R D
 | .ok (.ref i) h1=>(match h1[i]? with
   |some o=>if n<=i/\wg n o/\∀u∈h1.take n,wg n u then .ok (.ref n) (h1.take n++[o]) else .no
   |none=>.no)
 |_=>.no
section
variable{K:Fg}{U U':List Addr}{H H' H2:Hp}{h1:Hd}{n:Nat}{L:List Addr}
theorem ad7(f:FrzOf L H' H2)(ab:aa1 H' L)(κ:List Addr):Gw κ H' κ H2:=⟨⟨[],by simp⟩,λa vs e=>f.still ab e True.intro,λa o u e=>f.still ab e True.intro⟩
theorem lw(ih:∀{v d d'},Rep K U H v d->f d=some d'->Rep K κ H2 v d'):∀{vs:List V} {ds ds':List D},Reps K U H vs ds->a1h f ds=some ds'->Reps K κ H2 vs ds'
 |_,_,_,.nil,e=>by cases e;exact .nil
 |_,x::xs,_,.cons r rs,e=>by
  unfold a1h at e
  split at e
  .rename_i y ys h1 h2;cases e
   exact .cons (ih r h1) (lw ih rs h2)
  .cases e
theorem a6g(hr:HRep K U' H' h1)(hL:∀(i:Nat) a,U'[i]? = some a->n<=i->a∈L)(f:FrzOf L H' H2)(ab:aa1 H' L):∀(k:Nat) {v:V} {d d':D},Rep K U' H' v d->a6f n h1 k d=some d'->Rep K (U'.take n) H2 v d':=by
 intro k
 induction k with
 |zero=>intro v d d' r e;cases e
 |succ k ih =>
  intro v d d' r e
  unfold a6f at e
  split at e
  .rename_i c;cases e
   exact(r.cut c).monoW (ad7 f ab _)
  .rename_i c
   cases r with
   |tup h rs =>
    simp only[aQ]at e;obtain⟨ys,e1,rfl⟩:=e;exact .tup (f.still ab h True.intro) (lw (λr e=>ih r e) rs e1)
   |rol h rs =>
    simp only[aQ]at e;obtain⟨ys,e1,rfl⟩:=e;exact .rol (h.monoW (ad7 f ab U')) (lw (λr e=>ih r e) rs e1)
   |scr h rs =>
    simp only[aQ]at e;obtain⟨ys,e1,rfl⟩:=e;exact .scr (h.monoW (ad7 f ab U')) (lw (λr e=>ih r e) rs e1)
   |rod h ek rs =>
    simp only[aQ]at e;obtain⟨ys,e1,rfl⟩:=e;exact .rod (f.still ab h True.intro) ek (lw (λr e=>ih r e) rs e1)
   |rdT h ek rs =>
    simp only[aQ]at e;obtain⟨ys,e1,rfl⟩:=e;exact .rdT (f.still ab h True.intro) ek (lw (λr e=>ih r e) rs e1)
   |@ref a i ha =>
    have hi:n<=i:=by
     simp only[clo]at c;omega
    obtain⟨o,u,e1,e2⟩:=(f a).2 (hL i a ha hi);obtain⟨ob,h3,h4⟩:=hr.at ha;simp only[h3]at e
    cases ob with
    |lst xs =>
     simp only[aQ]at e;obtain⟨ys,e3,rfl⟩:=e;obtain⟨vs,h5,h6⟩:=h4;rw[e1]at h5;cases h5
     exact .rol ⟨o,e2⟩ (lw (λr e=>ih r e) h6 e3)
    |dK kvs =>
     simp only[aQ]at e;obtain⟨ys,e3,rfl⟩:=e;obtain⟨us,h5,h6,h7⟩:=h4;rw[e1]at h5;cases h5
     exact .rod e2 h6 (lw (λr e=>ih r e) h7 e3)
    |dT kvs =>
     simp only[aQ]at e;obtain⟨ys,e3,rfl⟩:=e;obtain⟨us,h5,h6,h7⟩:=h4;rw[e1]at h5;cases h5
     exact .rdT e2 h6 (lw (λr e=>ih r e) h7 e3)
    |ins c kvs =>
     simp only[aQ]at e;obtain⟨ys,e3,rfl⟩:=e;obtain⟨C,dx,us,h5,hn,h6,h7⟩:=h4;rw[e1]at h5;cases h5
     exact .ins e2 hn h6 (lw (λr e=>ih r e) h7 e3)
    |dN _=>cases e
   |non=>simp only[clo,cZ]at c
   |exc _ _ _=>simp only[clo,cZ]at c
   |ins h hn ek rs =>
    simp only[aQ]at e;obtain⟨ys,e1,rfl⟩:=e;exact .ins (f.still ab h True.intro) hn ek (lw (λr e=>ih r e) rs e1)
   |bl b=>simp only[clo,cZ]at c
   |int b=>simp only[clo,cZ]at c
   |str b=>simp only[clo,cZ]at c
   |ty b=>simp only[clo,cZ]at c
theorem a8h{κ:Type}{H:Hp}{us:List (κ×V)}{ks:List κ}{ys:List D}(e:us.map (·.1)=ks)(r:Reps K U H (us.map (·.2)) ys):KRep K U H us (ks.zip ys):=by
 have l:ks.length=ys.length:=by rw[<-e,aE,<-r.len,aE]
 refine⟨?_,?_⟩
 .rw[List.map_fst_zip (by omega)];exact e
 .rw[List.map_snd_zip (by omega)];exact r
theorem apr(hr:HRep K U' H' h1)(hL:∀(i:Nat) a,U'[i]? = some a->n<=i->a∈L)(f:FrzOf L H' H2)(ab:aa1 H' L){k:Nat}(na:a∉L)(r:ORep K U' H' a o)(e:auj n h1 k o=some o'):ORep K (U'.take n) H2 a o':=by
 have same:H2 a=H' a:=(f a).1 na;unfold auj at e
 split at e
 .rename_i c;cases e
  exact(r.cut c).monoW (ad7 f ab _) same
 .cases o with
  |lst xs =>
   simp only[aQ]at e;obtain⟨ys,e1,rfl⟩:=e;obtain⟨vs,h3,h4⟩:=r;exact⟨vs,by rw[same];exact h3,lw (λr e=>a6g hr hL f ab k r e) h4 e1⟩
  |dK kvs =>
   simp only[aQ]at e;obtain⟨ys,e1,rfl⟩:=e;obtain⟨us,h3,h4,h5⟩:=r;exact⟨us,by rw[same];exact h3,a8h h4 (lw (λr e=>a6g hr hL f ab k r e) h5 e1)⟩
  |dT kvs =>
   simp only[aQ]at e;obtain⟨ys,e1,rfl⟩:=e;obtain⟨us,h3,h4,h5⟩:=r;exact⟨us,by rw[same];exact h3,a8h h4 (lw (λr e=>a6g hr hL f ab k r e) h5 e1)⟩
  |ins c kvs =>
   simp only[aQ]at e;obtain⟨ys,e1,rfl⟩:=e;obtain⟨C,dx,us,h3,hn,h4,h5⟩:=r;exact⟨C,dx,us,by rw[same];exact h3,hn,a8h h4 (lw (λr e=>a6g hr hL f ab k r e) h5 e1)⟩
  |dN _=>cases e
theorem a2f{α β:Type}{f:α->Option β}:∀{xs:List α} {ys:List β},a1h f xs=some ys->xs.length=ys.length/\∀(i:Nat) y,ys[i]? = some y->∃x,xs[i]? = some x/\f x=some y
 |[],_,e=>by cases e;exact⟨rfl,λi y e=>by simp at e⟩
 |x::xs,ys,e=>by
  unfold a1h at e
  split at e
  .rename_i y ys h1 h2;cases e
   obtain⟨l,g⟩:=a2f h2;refine⟨by simp[l],λi z e=>?_⟩
   cases i with
   |zero=>simp at e;subst e;exact⟨x,rfl,h1⟩
   |succ i=>simpa using g i z (by simpa using e)
  .cases e
theorem agu(hr:HRep K U' H' h1)(M:List Addr)(hM:∀a∈M,a∈U'):aa1 H' M:=λa ha=>by
 obtain⟨i,hi⟩:=cf (hM a ha);obtain⟨o,_,q⟩:=hr.at hi
 cases o with
 |lst xs=>obtain⟨vs,h,_⟩:=q;exact .inl ⟨_,h⟩
 |dK xs=>obtain⟨vs,h,_⟩:=q;exact .inr (.inl ⟨_,h⟩)
 |dT xs=>obtain⟨vs,h,_⟩:=q;exact .inr (.inr (.inl ⟨_,h⟩))
 |ins _ _=>obtain⟨C,dx,vs,h,_⟩:=q;exact .inr (.inr (.inr (.inl ⟨_,_,_,h⟩)))
 |dN _ =>
  obtain⟨ent,⟨h,_⟩|⟨h,_⟩,_⟩:=q
  .exact .inr (.inr (.inr (.inr ⟨_,h.has⟩)))
  .exact .inr (.inl ⟨_,h⟩)
theorem a6h{α:Type}{l:List α}(nd:l.Nodup){i j:Nat}{a:α}(h1:l[i]? = some a)(h2:l[j]? = some a):i=j:=by
 obtain⟨l1,e1⟩:=ae.mp h1;obtain⟨l2,e2⟩:=ae.mp h2
 rcases Nat.lt_trichotomy i j with l|l|l
 .exact absurd (e1.trans e2.symm) (bX.mp nd i j l1 l2 l)
 .exact l
 .exact absurd (e2.trans e1.symm) (bX.mp nd j i l2 l1 l)
theorem auk(g:Gr U H U' H')(f:FrzOf L H' H2)(ab:aa1 H' L)(hL:∀a∈L,H a=none)(hm:∀a∈m,H a=none):Gr U H (U++m) H2:=by
 refine⟨⟨m,rfl,hm⟩,λa vs e=>f.still ab (g.tup a vs e) True.intro,λa o u e=>f.still ab (g.frz a o u e) True.intro,λa u e hn=>?_,λa u e=>?_⟩
 .rw[(f a).1 λz=>by rw[hL a z]at e;cases e]
  exact g.oth a u e hn
 .obtain⟨u',e'⟩:=g.kp a u e;rw[(f a).1 λz=>by rw[hL a z]at e;cases e]
  exact⟨u',e'⟩
theorem agv{d d':D}{v:V}{g':Hd}(g:Gr U H U' H')(rb:Rep K U' H' v d)(hr:HRep K U' H' h1)(e:aa2 U.length (.ok d h1)=.ok d' g') :
  ∃L,aa1 H' L/\∀H2,FrzOf L H' H2->Gr U H U H2/\Rep K U H2 v d'/\HRep K U H2 g':=by
 obtain⟨m,rfl,hm⟩:=g.pre;have tk:(U++m).take U.length=U:=by simp
 have ab:aa1 H' m:=agu hr m λa ha=>br _ ha;have hL:∀(i:Nat) a,(U++m)[i]? = some a->U.length<=i->a∈m:=λi a e hi=>by
  rw[aK hi]at e;exact bq e
 refine⟨m,ab,λH2 f=>?_⟩;unfold aa2 at e;simp only at e
 split at e
 .rename_i dd gg e1 e2;cases e
  refine⟨by simpa using auk g f ab hm (m:=[]) (by simp),by have:=a6g hr hL f ab FU rb e1;rwa[tk]at this,?_⟩
  obtain⟨l,gt⟩:=a2f e2;have hl:=hr.len;have ln:U.length<=h1.length:=by rw[<-hl];simp
  refine⟨(bC.mp hr.nd).1,by rw[<-l,aR];omega,λi a o q1 q2=>?_⟩
  obtain⟨x,hx,fx⟩:=gt i o q2;have hi:i<U.length:=(ae.mp q1).1;rw[el,ai hi]at hx;have q3:(U++m)[i]? = some a:=by rw[aU hi];exact q1
  have na:a∉m:=λz=>(bC.mp hr.nd).2.2 a (bq q1) a z rfl;have:=apr hr hL f ab na (hr.obj i a x q3 hx) fx
  rwa[tk]at this
 .cases e
theorem ake(g:Gr U H U' H')(rb:Rep K U' H' v d)(hr:HRep K U' H' h1)(e:arh U.length (.ok d h1)=.ok d' g') :
  ∃b,H b=none/\Gr U H (U++[b]) H'/\Rep K (U++[b]) H' v d'/\HRep K (U++[b]) H' g':=by
 obtain⟨m,rfl,hm⟩:=g.pre;have tk:(U++m).take U.length=U:=by simp
 have up:∀b,Gw U H' (U++[b]) H':=λb=>⟨⟨[b],rfl⟩,λ_ _ h=>h,λ_ _ _ h=>h⟩
 cases rb with
 |@ref b i hb =>
  unfold arh at e;simp only at e
  split at e
  .rename_i ob ho
   split at e
   .rename_i hc;obtain⟨hi,c1,c2⟩:=hc;cases e
    have hb':=hb;rw[aK hi]at hb';have bm:b∈m:=bq hb';obtain⟨nd1,nd2,nd3⟩:=bC.mp hr.nd;have hl:=hr.len;have ln:U.length<=h1.length:=by rw[<-hl];simp
    have lt:(h1.take U.length).length=U.length:=by rw[aR];omega
    refine⟨b,hm b bm,⟨⟨[b],rfl,by simpa using hm b bm⟩,g.tup,g.frz,g.oth,g.kp⟩,.ref (by simp),?_⟩
    refine⟨bC.mpr ⟨nd1,by simp,λa ha c hc z=>nd3 a ha c (by rw[aI.mp hc];exact bm) z⟩,by simp[lt],λj a o q1 q2=>?_⟩
    by_cases hj:j<U.length
    .rw[aU hj]at q1;rw[aU (by omega)]at q2
     have q2':=q2;rw[el,ai hj]at q2';have:=(hr.obj j a o (by rw[aU hj];exact q1) q2').cut (c2 o (bq q2))
     rw[tk]at this;exact this.monoW (up b) rfl
    .have hj2:j<(U++[b]).length:=(ae.mp q1).1;have:j=U.length:=by simp at hj2;omega
     subst this;rw[aK (a8 _)]at q1;rw[aK (by omega),lt]at q2
     simp at q1 q2
     subst q1 q2;have:=(hr.obj i b ob hb ho).cut c1;rw[tk]at this;exact this.monoW (up b) rfl
   .cases e
  .cases e
 |_=>cases e
end
def sZ(f:SE):SE:=λτ h=>aa2 h.length (f τ h)
abbrev b1b(Q:VK):VK:=λv H1=>∃L,aa1 H1 L/\∀H2,FrzOf L H1 H2->Q v H2
theorem aym(q:lift K E (v6 K) (sZ fa) σ H Q):lift K E (v6 K) fa σ H (b1b Q):=by
 obtain⟨U,τ,h,S,Rh,o⟩:=q;refine⟨U,τ,h,S,Rh,?_⟩;unfold sZ at o;rw[<-Rh.len]at o
 cases hf:fa τ h with
 |ok d h1 =>
  rw[hf]at o
  intro U' H' v g r hr
  cases hz:aa2 U.length (.ok d h1) with
  |ok d' g' =>
   rw[hz]at o;obtain⟨L,ab,k⟩:=agv g r hr hz;refine⟨L,ab,λH2 f=>?_⟩;obtain⟨k1,k2,k3⟩:=k H2 f;exact o U H2 v k1 k2 k3
  |ex c hx=>unfold aa2 at hz;simp only at hz;split at hz<;>cases hz
  |no=>rw[hz]at o;exact o.elim
 |ex c h1=>rw[hf]at o;exact o.elim
 |no=>rw[hf]at o;exact o.elim
theorem b1c(ha:ME X E e fa):ME X E e (sZ fa):=PE.weak (a7n ha) λσ H Q q=>aym q
noncomputable def refOf:D->Option Nat
 |.ref i=>some i
 |_=>none
noncomputable def a0y(ds:List D):List Nat:=ds.filterMap refOf
noncomputable def a0d:Nat->List D->List D
 |_,[]=>[]
 |k,d::ds=>match d with
  |.ref _=>.ref k::a0d (k+1) ds
  |d=>d::a0d k ds
noncomputable def uv:Hd->List Nat->List O->Hd
 |h,i::is,o::os=>uv (h.set i o) is os
 |h,_,_=>h
def isRef(d:D):Prop:=∃i,d=.ref i
open Classical in
def an4(m:Bool)(F:SF)(ds:List D)(h:Hd):R D:=match a1h (λi=>h[i]?) (a0y ds) with
 |none=>.no
 | some os=>if (a0y ds).Nodup/\(∀d∈ds,clo 0 d\/isRef d)/\(∀o∈os,wg 0 o) then
   (match (if m then arh os.length (F (a0d 0 ds) os) else aa2 os.length (F (a0d 0 ds) os)) with
   | .ok d h1=>if ∀o∈h1,wg 0 o then
     (if m then .ok (.ref h.length) (uv h (a0y ds) h1++h1.drop os.length)
      else if clo 0 d then .ok d (uv h (a0y ds) h1) else .no) else .no
   |_=>.no)
  else .no
def j8(m:Bool)(n:Nat)(F:SF):SF:=λds h=>if ds.length=n then an4 m F ds h else .no
section
variable{K:Fg}{U U':List Addr}{H H' H2:Hp}{h h1:Hd}{n:Nat}
theorem an5(κ:List Addr):Gw [] H κ H:=⟨⟨κ,rfl⟩,λ_ _ h=>h,λ_ _ _ h=>h⟩
theorem Rep.any(r:Rep K U H v d)(c:MI.clo 0 d)(κ:List Addr):Rep K κ H v d:=by
 have:=r.cut c
 rw[fz]at this;exact this.monoW (an5 κ)
theorem ORep.any(r:ORep K U H a o)(c:wg 0 o)(κ:List Addr):ORep K κ H a o:=by
 have:=r.cut c
 rw[fz]at this;exact this.monoW (an5 κ) rfl
theorem aa3{α:Type}(l:List α):∀{is:List Nat},(∀i∈is,i<l.length)->∃ys,a1h (λi=>l[i]?) is=some ys
 |[],_=>⟨[],rfl⟩
 |i::is,hi=>by
  obtain⟨ys,e⟩:=aa3 l (is:=is) λj hj=>hi j (aP _ hj);have:=hi i aX;exact⟨l[i]::ys,by unfold a1h;rw[e,a6 this]⟩
theorem a4o:∀{ds:List D} {vs:List V} {pre κ:List Addr},Reps K U H vs ds->(∀d∈ds,clo 0 d\/isRef d)->a1h (λi=>U[i]?) (a0y ds)=some κ->Reps K (pre++κ) H vs (a0d pre.length ds)
 |[],_,_,_,.nil,_,_=>.nil
 |d::ds,_,pre,κ,.cons r rs,hc,e=>by
  have hc':∀d∈ds,clo 0 d\/isRef d:=λx hx=>hc x (aP _ hx)
  by_cases hd:isRef d
  .obtain⟨i,rfl⟩:=hd;have e':a1h (λi=>U[i]?) (i::a0y ds)=some κ:=e;unfold a1h at e'
   split at e'
   .rename_i a κ' h1 h2
    cases e'
    cases r with
    |ref ha =>
     rw[ha]at h1;cases h1
     have:=a4o (pre:=pre++[a]) rs hc' h2
     simp only[c9,eJ,a9,ay]at this;refine .cons (.ref ?_) this;rw[aK (a8 _)];simp
   .cases e'
  .have c:=(hc d aX).resolve_right hd;have e1:a0y (d::ds)=a0y ds:=by
    unfold a0y
    cases d<;>first|rfl|exact absurd ⟨_,rfl⟩ hd
   have e2:a0d pre.length (d::ds)=d::a0d pre.length ds:=by
    cases d<;>first|rfl|exact absurd ⟨_,rfl⟩ hd
   rw[e1]at e;rw[e2];exact .cons (r.any c _) (a4o rs hc' e)
theorem a0n:∀{is:List Nat} {os:List O} {h:Hd},(uv h is os).length=h.length
 |[],_,_=>by simp[uv]
 |_::_,[],_=>by simp[uv]
 |i::is,o::os,h=>by rw[uv,a0n,cY]
theorem a4p:∀{is:List Nat} {os:List O} {h:Hd},i∉is->(uv h is os)[i]? = h[i]?
 |[],_,_,_=>by simp[uv]
 |_::_,[],_,_=>by simp[uv]
 |j::is,o::os,h,n=>by
  rw[uv,a4p λz=>n (aP _ z),cH λz=>n (by rw[z];exact aX)]
theorem aa4:∀{is:List Nat} {os:List O} {h:Hd} {j:Nat},is.Nodup->is[j]? = some i->os[j]? = some o->i<h.length->(uv h is os)[i]? = some o
 |[],_,_,_,_,e,_,_=>by simp at e
 |_::_,[],_,_,_,_,e,_=>by simp at e
 |k::is,o'::os,h,j,nd,e1,e2,hl=>by
  cases j with
  |zero =>
   simp at e1 e2
   subst e1 e2;rw[uv,a4p (cP.mp nd).1,cA hl]
  |succ j =>
   rw[uv];exact aa4 (j:=j) (cP.mp nd).2 (by simpa using e1) (by simpa using e2) (by simpa using hl)
theorem aa5{α:Type}{l:List α}(nl:l.Nodup){is:List Nat}{ys:List α}(e:a1h (λi=>l[i]?) is=some ys)(ni:is.Nodup):ys.Nodup:=by
 obtain⟨le,g⟩:=a2f e;refine bX.mpr λi j hi hj lt z=>?_;obtain⟨x,h1,h2⟩:=g i _ (a6 hi);obtain⟨y,h3,h4⟩:=g j _ (a6 hj);rw[<-z]at h4;have:=a6h nl h2 h4;subst this;have:=a6h ni h1 h3;omega
theorem ad8{is:List Nat}{κ m:List Addr}{g:Hd}(hr:HRep K U H h)(e1:a1h (λi=>U[i]?) is=some κ)(nd:is.Nodup)(gr:Gr κ H (κ++m) H2)(hg:HRep K (κ++m) H2 g)(cg:∀o∈g,wg 0 o)(hm:m.length<=1) :
  Gr U H (U++m) H2/\HRep K (U++m) H2 (uv h is g++g.drop κ.length):=by
 obtain⟨l1,g1⟩:=a2f e1;have mn:∀a∈m,H a=none:=by
  obtain⟨m',e,hm'⟩:=gr.pre;rw[List.append_cancel_left e];exact hm'
 have sub:∀a∈κ,a∈U:=λa ha=>by
  obtain⟨j,hj⟩:=cf ha;obtain⟨i,_,q⟩:=g1 j a hj;exact bq q
 have some_of:∀a∈U,∃u,H a=some u:=λa ha=>by
  obtain⟨i,hi⟩:=cf ha;obtain⟨o,_,q⟩:=hr.at hi;obtain⟨u,q,_⟩:=q.some;exact⟨u,q⟩
 have G:Gr U H (U++m) H2:=⟨⟨m,rfl,mn⟩,gr.tup,gr.frz,λa u e n=>gr.oth a u e λz=>n (sub a z),gr.kp⟩;have lg:=hg.len;rw[a9]at lg;refine⟨G,?_,?_,λj a o q1 q2=>?_⟩
 .refine bC.mpr ⟨hr.nd,(bC.mp hg.nd).2.1,λa ha b hb z=>?_⟩;obtain⟨u,q⟩:=some_of a ha;rw[z,mn b hb]at q;cases q
 .rw[a9,a9,a0n,aY,hr.len];omega
 .by_cases hj:j<U.length
  .rw[aU hj]at q1;rw[aU (by rw[a0n,<-hr.len];exact hj)]at q2
   by_cases hp:j∈is
   .obtain⟨k,hk⟩:=cf hp;have hkl:k<κ.length:=by rw[<-l1];exact(ae.mp hk).1
    obtain⟨i,h3,h4⟩:=g1 k _ (a6 hkl);rw[hk]at h3;cases h3
    rw[q1]at h4;have hkg:k<g.length:=by omega
    have e5:=aa4 (h:=h) nd hk (a6 hkg) (by rw[<-hr.len];exact hj)
    rw[e5]at q2;cases q2
    have ea:(κ++m)[k]? = some a:=by rw[aU hkl,a6 hkl];exact h4.symm
    exact(hg.obj k a _ ea (a6 hkg)).any (cg _ (bo hkg)) _
   .rw[a4p hp]at q2;have r:=hr.obj j a o q1 q2;obtain⟨u,hu,_⟩:=r.some;have na:a∉κ:=λz=>by
     obtain⟨k,hk⟩:=cf z;obtain⟨i,h3,h4⟩:=g1 k a hk;have:=a6h hr.nd q1 h4;subst this;exact hp (bq h3)
    exact r.mono G (by rw[hu];exact gr.oth a u hu na)
  .have q1':=q1;rw[aK (by omega)]at q1
   rw[aK (by rw[a0n,<-hr.len];omega),a0n,<-hr.len,List.getElem?_drop]at q2
   have ea:(κ++m)[κ.length+(j-U.length)]? = some a:=by rw[aK (by omega)];simpa using q1
   exact(hg.obj _ a o ea q2).any (cg o (bq q2)) _
theorem a8i{m:Bool}{F:SF}{vs:List V}{ds:List D}{Q:VK}(r:Reps K U H vs ds)(hr:HRep K U H h)(o:out K X0 (v6 K) U H (j8 m n F ds h) Q)(E:XK) :
  a0h K n F vs H (λv H1=>∃L,aa1 H1 L/\∀H2,FrzOf L H1 H2->Q v H2) E:=by
 unfold j8 at o
 split at o
 .rename_i hl;refine⟨by rw[r.len];exact hl,?_⟩
  unfold an4 at o
  split at o
  .exact o.elim
  .rename_i os hos
   split at o
   .rename_i hc;obtain⟨nd,hd,hcl⟩:=hc;obtain⟨l0,g0⟩:=a2f hos;obtain⟨κ,e1⟩:=aa3 U (is:=a0y ds) λi hi=>by
     obtain⟨j,hj⟩:=cf hi;have hjl:j<os.length:=by rw[<-l0];exact(ae.mp hj).1
     obtain⟨x,h3,h4⟩:=g0 j _ (a6 hjl);rw[hj]at h3;cases h3
     rw[hr.len];exact(ae.mp h4).1
    obtain⟨l1,g1⟩:=a2f e1;have lk:κ.length=os.length:=by omega
    have R0:Reps K κ H vs (a0d 0 ds):=by simpa using a4o (pre:=[]) r hd e1
    have H0:HRep K κ H os:=by
     refine⟨aa5 hr.nd e1 nd,lk,λj a ob q1 q2=>?_⟩;obtain⟨i,h3,h4⟩:=g1 j a q1;obtain⟨i',h5,h6⟩:=g0 j ob q2;rw[h3]at h5;cases h5
     exact(hr.obj i a ob h4 h6).any (hcl ob (bq q2)) _
    refine⟨κ,a0d 0 ds,os,R0,H0,?_⟩
    cases hF:F (a0d 0 ds) os with
    |no=>rw[hF]at o;cases m<;>exact o.elim
    |ex c hx=>rw[hF]at o;cases m<;>exact o.elim
    |ok d h1 =>
     rw[hF]at o
     intro U' H' v g rb hr1
     rw[<-lk]at o
     cases m with
     |false =>
      simp only[c4,dQ]at o
      cases hz:aa2 κ.length (.ok d h1) with
      |ok d' g' =>
       rw[hz]at o;simp only at o;obtain⟨L,ab,k⟩:=agv g rb hr1 hz;refine⟨L,ab,λH2 f=>?_⟩;obtain⟨k1,k2,k3⟩:=k H2 f
       split at o
       .rename_i cg
        split at o
        .rename_i cd;have q:=ad8 (m:=[]) hr e1 nd (by simpa using k1) (by simpa using k3) cg (by simp)
         have lg:=k3.len;have dr:g'.drop κ.length=[]:=cB (by omega)
         rw[dr,bP,bP]at q;exact o U H2 v q.1 (k2.any cd _) q.2
        .exact o.elim
       .exact o.elim
      |ex c hx=>rw[hz]at o;exact o.elim
      |no=>rw[hz]at o;exact o.elim
     |true =>
      simp only[dB]at o
      cases hz:arh κ.length (.ok d h1) with
      |ok d' g' =>
       rw[hz]at o;simp only at o;obtain⟨b,hb,k1,k2,k3⟩:=ake g rb hr1 hz;refine⟨[],λa ha=>(by simp at ha),λH2 f=>?_⟩
       have e2:H2=H':=by funext a;exact(f a).1 (by simp)
       subst e2
       split at o
       .rename_i cg;have q:=ad8 (m:=[b]) hr e1 nd k1 k3 cg (by simp)
        refine o (U++[b]) H2 v q.1 ?_ q.2;have hd':d'=.ref κ.length:=by
         unfold arh at hz
         split at hz
         .rename_i i h2 hh
          injection hh with z1 z2
          split at hz
          .split at hz
           .injection hz with z3 z4;exact z3.symm
           .cases hz
          .cases hz
         .cases hz
        subst hd'
        cases k2 with
        |ref hk =>
         rw[aK (a8 _)]at hk;simp at hk;subst hk;exact .ref (by rw[<-hr.len];simp)
       .exact o.elim
      |ex c hx=>rw[hz]at o;exact o.elim
      |no=>rw[hz]at o;exact o.elim
   .exact o.elim
 .exact o.elim
end
theorem ad9(m:Bool){X:Cx}(G:Dn X.prog X.w X.K X.mg X.base k x ps (a0h X.K n F) f fd)(hr:Room k X.A)(hg:Gl X x)(ha:MA X X0 (e::es) ka)
  (hdb:(x == ("__debug__" : Str))=false:=by decide) (he:starEach (e::es) X.env=(false,eval e X.env)::starEach es X.env:=by rfl) (hpl:(backTo pos (starEach es X.env)).any (·.1)=false:=by rfl):ME X X0 (.Call (.Name x p) (e::es) [] pos) (sA (j8 m n F) ka):=by
 refine PE.weak (a7n (a82 G.ok hr hg G.m G.kp G.b .nil aot ha hdb he hpl)) ?_
 rintro σ H Q ⟨U,τ,h,S,Rh,o⟩
 refine⟨U,τ,h,S,Rh,dg o λds h1 U1 H1 vs g1 r1 hr1 o1=>?_⟩;rw[bP];exact a8i r1 hr1 o1 _
theorem agw(m:Bool){X:Cx}(G:Dn X.prog X.w X.K X.mg X.base k x ps (a0h X.K n F) f fd)(hr:Room k X.A)(hg:Gl X x)(hdb:(x == ("__debug__" : Str))=false:=by decide) :
  ME X X0 (.Call (.Name x p) [] [] pos) (sA (j8 m n F) aq):=by
 refine PE.weak (a7n (aji G.ok hr hg G.m G.kp G.b .nil aot hdb)) ?_
 rintro σ H Q ⟨U,τ,h,S,Rh,o⟩
 exact a8i (vs:=[]) .nil Rh o E0
def an6:SS:=λ_ _=>.no
section
variable{X:Cx}{E:XD}
theorem aul:MSs X E st an6:=λ_ _ _ _ _ _ ⟨_,_,_,_,_,o⟩=>o.elim
end
theorem an7(h:PS X st t):PS X st (λD σ H=>t {D with nx:=λσ' H1=>∃L,aa1 H1 L/\∀H2,FrzOf L H1 H2->D.nx σ' H2} σ H):=λaA s σ H D I q =>
 thn (h aA s σ H _ I q) λf s' k=>by
  cases f with
  |next =>
   obtain⟨σ',H1,I1,L,ab,k⟩:=k;obtain⟨H2,f,I2⟩:=Inv.frz I1 ab;exact⟨σ',H2,I2,k H2 f⟩
  |brk=>exact k
  |cont=>exact k
  |ret u=>exact k
theorem agx(q:a4k K E (jm i f) N σ H):lift K E (v6 K) f σ H (λv H1=>N.nx (σ.set i (some v)) H1):=by
 obtain⟨U,τ,h,S,Rh,o⟩:=q;exact⟨U,τ,h,S,Rh,qe o λd h1 U1 H1 v g1 r1 hr1 o1=>o1 U1 H1 _ (.refl _ _) ((S.mono g1).set r1 i) hr1⟩
theorem aps(ht:af5 K n g t)(q:lift K E (v6 K) (qi fi t fe ix) σ H Q):afz (lift K E (ayj K) fi) (yc n ix) g (lift K E (v6 K) fe) σ H Q:=by
 obtain⟨U,τ,h,Sr,Rh,o⟩:=q;refine⟨U,τ,h,Sr,Rh,dg o λit h1 U1 H1 J g1 r1 hr1 o1=>?_⟩
 by_cases hl:it.xs.length<=LINE
 .rw[ai hl]at o1;exact ad0 r1 ht (a3l (Sr.mono g1) ix) hr1 hl o1
 .rw[aL hl]at o1;exact o1.elim
theorem akf(ht:af5 K n g t)(q:lift K E (v6 K) (a1k fi t fc fe ix) σ H Q):a4i (lift K E (ayj K) fi) (yc n ix) g (lift K E ajv fc) (lift K E (v6 K) fe) σ H Q:=by
 obtain⟨U,τ,h,Sr,Rh,o⟩:=q;refine⟨U,τ,h,Sr,Rh,dg o λit h1 U1 H1 J g1 r1 hr1 o1=>?_⟩
 by_cases hl:it.xs.length<=LINE
 .rw[ai hl]at o1;exact a9x r1 ht (a3l (Sr.mono g1) ix) hr1 hl o1
 .rw[aL hl]at o1;exact o1.elim
section
variable{X:Cx}{E:XD}{aD tg aF cnd:Expr}{aB:Scope}{pos spos pos':Pos}{cl:List (Str×Addr)}{ts fr:List Str}{ix:List Nat}{fi:SI}{g:TG}{t:D->Option Sd}{fe:SE}{fc:ST}{i:Nat}{x:Str}
theorem a8j(hN:X.N.Nodup)(hi':X.N[i]? = some x)(hx:Loc X.env.scope x)(hc:X.calm=true)(S:CSc X aB cl ts fr ix)(hi:MI X E tg aF fi)(hg:∀C fp s H,PG (cxC X (ts++fr) aB cl C fp s H) tg g)(ht:af5 X.K ts.length g t)(he:∀C fp s H,ME (cxC X (ts++fr) aB cl C fp s H) E aD fe)
  (hs:∀x,foldedSetIterable aF X.env x=pure x:=by intro _;rfl) (hsw:swapsWith (.ListComp aD [⟨tg,aF,[],0⟩] aB pos) (some (.Name x pos')) spos.line X.env=pure true:=by rfl) (hf:Hf X x:=by with_unfolding_all first|exact .inl rfl|exact .inr rfl|assumption) :
  MS X E (.Assign [.Name x pos'] (.ListComp aD [⟨tg,aF,[],0⟩] aB pos) spos) (jm i (sZ (qi fi t fe ix))) :=
 PS.weak (an7 (ajq (te:=lift X.K E (v6 X.K) fe) hN hi' hx hc S hi hg he hs hsw hf)) λN σ H q=>aps ht (aym (agx q))
theorem akg(hN:X.N.Nodup)(hi':X.N[i]? = some x)(hx:Loc X.env.scope x)(hc:X.calm=true)(S:CSc X aB cl ts fr ix)(hi:MI X E tg aF fi)(hg:∀C fp s H,PG (cxC X (ts++fr) aB cl C fp s H) tg g)(ht:af5 X.K ts.length g t)(he:∀C fp s H,ME (cxC X (ts++fr) aB cl C fp s H) E aD fe)
  (hq:∀C fp s H,MT (cxC X (ts++fr) aB cl C fp s H) E cnd fc)
  (hs:∀x,foldedSetIterable aF X.env x=pure x:=by intro _;rfl) (hsw:swapsWith (.ListComp aD [⟨tg,aF,[cnd],0⟩] aB pos) (some (.Name x pos')) spos.line X.env=pure true:=by rfl) (hf:Hf X x:=by with_unfolding_all first|exact .inl rfl|exact .inr rfl|assumption) :
  MS X E (.Assign [.Name x pos'] (.ListComp aD [⟨tg,aF,[cnd],0⟩] aB pos) spos) (jm i (sZ (a1k fi t fc fe ix))) :=
 PS.weak (an7 (aei (te:=lift X.K E (v6 X.K) fe) (tc:=lift X.K E ajv fc) hN hi' hx hc S hi hg he hq hs hsw hf)) λN σ H q=>akf ht (aym (agx q))
end
theorem aum(Fu:Fun K x qual st f fd)(S:FnScope N ps (fj st))
  (hb:∀(cdv:Value) (A:Around) (outer:List Env) (s:Shared) (H:Hp) (E:XK),Room k (A.deeper (PyProof.Rows.envOfC qual (fj st) s.heap.objs.size f cdv))->MSs (afm CX0 P w K mg base N qual (fj st) f cdv A outer s H E).nox X0 (qd st) b) :
  FnOk P w K mg base CX0 (k+1) f fd ps (a0h K ps.length (jw b N.length)):=au1 Fu S hb λds h _ _ _=>Rf.same rfl
end MI
namespace MI
open L2 HT
theorem aes{s:Shared}(ht:PyProof.Rows.IsTup s.heap t aC)(hs:s.heap.IsSliceOf sl vl vu .none)(pl:IsPart vl lo)(pu:IsPart vu hi)
  (hw:HT.sIx aC.size 0 lo=0/\HT.sIx aC.size aC.size hi=aC.size) (h:Q (.ref t) s):wpAny (model prog w) A (getItem (.ref t) (.ref sl)) Q E s:=by
 obtain⟨os,f1,f2,f3⟩:=id hs;have ty:s.TypeIs (.ref sl) "slice":=⟨os,f1,f2⟩;have tt:s.TypeIs (.ref t) "tuple":=ht.typeIs;rw[getItem]
 try apply cD
 first|(apply ag;apply aN)|skip
 apply ag;apply fF tt (by decide)
 apply ag
 apply e8 (name:=Str.ofString "__getitem__") tt bQ
 apply fQ bQ tt PyProof.Rows.entry_tuple_getitem _ (PyProof.Rows.args_tuple_getitem _ _)
 change wpAny (model prog w) A.in1 (Builtin.Tuple.tupleItemsOf (.ref t)>>=_) _ _ s
 apply ag;apply PyProof.Rows.tupleItemsOf_ ht
 apply ag;apply fv ty
 rw[ai (by decide)]
 apply ag;apply HT.a1c hs pl pu
 rw[hw.1,hw.2];dsimp only;rw[ai (by simp)]
 apply ag
 rw[Builtin.Tuple.tupleIsExact]
 apply ag;apply fv tt
 apply aN
 rw[ai (by decide)]
 apply ag;apply wpAny_rule
 apply aN
 exact⟨_,rfl,aN h⟩
def b07(K:Fg):V->Option Int->Option Int->Hp->VK->Prop:=λx lo hi H Q=>∃a xs,x=.ref a/\SqT K H a xs/\whole xs.length lo hi/\Q (.ref a) H
theorem akh:SlR X (b07 X.K):=by
 intro aA s σ H x v vl vu lo hi sl Q I rx hs pl pu h
 obtain⟨a,xs,rfl,hx,hw,q⟩:=h;cases rx
 obtain⟨its,r,ht,hz⟩:=I.tuple hx;have aH:its.toArray.size=xs.length:=by rw[ax];exact r.length.symm
 exact⟨"tuple",_,bQ.lookup,ht.typeIs,aes ht hs pl pu (by rw[aH];exact hw) ⟨.ref a,H,I,rfl,q⟩⟩
noncomputable def ada(d:D)(lo hi:Option Int)(h:Hd):R D:=match d with
 |.tup xs=>if whole xs.length lo hi then .ok (.tup xs) h else .ok (.tup (a72 xs lo hi)) h
 |d=>gSl d lo hi h
noncomputable def a2g(f:SE)(l u:SO):SE:=λτ h=>(f τ h).bind λd h1=>(l τ h1).bind λlo h2=>(u τ h2).bind λhi h3=>ada d lo hi h3
theorem apt(rx:Rep K U H x d)(hr:HRep K U H h)(o:out K E (v6 K) U H (ada d lo hi h) Q):(aya x lo hi H Q\/ay5 K x lo hi H Q\/ay7 K x lo hi H Q)\/b07 K x lo hi H Q:=by
 cases rx with
 |@tup p vs xs hp r =>
  by_cases hc:whole xs.length lo hi
  .simp only[ada,ai hc]at o;exact .inr ⟨p,vs,rfl,SqT.of hp,by rw[r.len];exact hc,ans o (.tup hp r) hr⟩
  .simp only[ada,aL hc]at o;exact .inl (.inr (.inl ⟨p,vs,rfl,SqT.of hp,by rw[r.len];exact hc,a2t (a3p r lo hi) hr o⟩))
 |non=>exact o.elim
 |bl _=>exact o.elim
 |int _=>exact o.elim
 |ty _=>exact o.elim
 |str z=>exact .inl (ad3 (.str z) hr o)
 |rol a b=>exact .inl (ad3 (.rol a b) hr o)
 |scr a b=>exact .inl (ad3 (.scr a b) hr o)
 |rod a b c=>exact o.elim
 |rdT a b c=>exact o.elim
 |exc a b c=>exact o.elim
 |ins _ _ _ _=>exact o.elim
 |ref a=>exact .inl (ad3 (.ref a) hr o)
theorem agy(he:ME X E e fa)(hl:MO X E lo l)(hu:MO X E hi u):ME X E (.Subscript e (.Slice lo hi none p2) pos) (a2g fa l u):=by
 refine PE.weak (ajk ((at5.or (ass.or aor)).or akh) he hl hu) ?_
 rintro σ H Q ⟨U,τ,h,S,Rh,o⟩
 refine⟨U,τ,h,S,Rh,dg o λd h1 U1 H1 v g1 r1 hr1 o1=>?_⟩;refine⟨U1,τ,h1,S.mono g1,hr1,dg o1 λlo h2 U2 H2 lv g2 r2 hr2 o2=>?_⟩;refine⟨U2,τ,h2,(S.mono g1).mono g2,hr2,dg o2 λhi h3 U3 H3 hv g3 r3 hr3 o3=>?_⟩
 cases r2;cases r3
 exact apt ((r1.mono g2).mono g3) hr3 o3
end MI
namespace L2
open PyProof.Rows
theorem aki:azy X (awz X.K):=by
 intro aA s σ H o i ov iv Q I ro ri h
 obtain⟨p,xs,k,z,rfl,rfl,hq,he,q⟩:=h;cases ro
 obtain⟨t,rfl⟩:=ri;obtain⟨its,r,pl,hz⟩:=I.list hq;obtain⟨j,h1,h2,h3,h4,h5⟩:=a83 he;obtain⟨w,ew,rw'⟩:=r.get h2;have len:=r.length;have l63:=a4x;have done:EP X aA σ Q w s:=⟨z,H,I,rw',q⟩
 by_cases neg:k<0
 .have ej:(k+(its.toArray.size:Int)).toNat=j:=by
   rw[fU neg h4]at h1;rw[ax,<-len];exact bK h1
  exact wpAny_getItem_list_neg pl.isList neg (by rw[ax];omega) (by omega) (by rw[ej];simpa using ew) done
 .have ej:k.toNat=j:=by
   rw[gp (by omega) h5]at h1
   exact bK h1
  exact wpAny_getItem_list pl.isList (by omega) (by omega) (by rw[ej];simpa using ew) done
end L2
namespace MI
open L2
noncomputable def aj0(x y:D)(h:Hd):R D:=match x,y with
 |.ref p,.int i=>(match h[p]? with|some (.lst xs)=>(match atI xs i with|some d=>.ok d h|none=>.no)|_=>.no)
 |_,_=>.no
theorem apu:a0j K aj0 (awz K):=by
 intro E U H h x y dx dy Q rx ry hr o
 cases rx with
 |@ref p i hp =>
  cases ry with
  |int k =>
   simp only[aj0]at o
   split at o
   .rename_i xs hx;obtain⟨vs,h3,h4⟩:=hr.lst hp hx
    split at o
    .rename_i d he;obtain⟨v,h1,h2⟩:=ad2 h4 he;exact⟨p,vs,k,v,rfl,rfl,SqL.of h3,h1,ans o h2 hr⟩
    .exact o.elim
   .exact o.elim
  |_=>exact o.elim
 |_=>exact o.elim
noncomputable def a1n(g:D->D->Hd->R D)(fo fi fe:SE):SS:=λτ h=>(fo τ h).fl λo h1=>(fi τ h1).fl λi h2=>(aj0 o i h2).fl λx h3=>(fe τ h3).fl λy h4=>(g x y h4).fl λz h5=>match put o i z h5 with|some h6=>.nx τ h6|none=>.no
section
variable{X:Cx}{E:XD}{e o i:Expr}{fa fb fc:SE}{pos:Pos}
theorem abj(ho:ME X E o fa)(hi:ME X E i fb)(he:ME X E e fc)(hp:OpR X (inplaceOp op) r)(hs:a0j X.K gg r)
  (ha:∀ov iv new,augStore i ov iv new=(do holding [new,ov,iv] (setItem ov iv new);release [new,ov,iv] [];pure .next):=by intros;rfl):MS X E (.AugAssign (.Subscript o i tpos) op e pos) (a1n gg fa fb fc):=by
 refine PS.weak (aoc ho hi aki he hp set_list ha) ?_
 rintro N σ H ⟨U,τ,h,S,Rh,oo⟩
 refine⟨U,τ,h,S,Rh,qe oo λd h1 U1 H1 v g1 r1 hr1 o1=>?_⟩;refine⟨U1,τ,h1,S.mono g1,hr1,qe o1 λd2 h2 U2 H2 u g2 r2 hr2 o2=>?_⟩;refine apu E U2 H2 h2 v u d d2 _ (r1.mono g2) r2 hr2 (qe o2 λd3 h3 U3 H3 w g3 r3 hr3 o3=>?_);have S3:=((S.mono g1).mono g2).mono g3;refine⟨U3,τ,h3,S3,hr3,qe o3 λd4 h4 U4 H4 y g4 r4 hr4 o4=>?_⟩;refine hs E U4 H4 h4 w y d3 d4 _ (r3.mono g4) r4 hr4 (qe o4 λd5 h5 U5 H5 z g5 r5 hr5 o5=>?_)
 cases hq:put d d2 d5 h5 with
 |none=>rw[hq]at o5;exact o5.elim
 |some h6 =>
  rw[hq]at o5;exact agd ((((r1.mono g2).mono g3).mono g4).mono g5) (((r2.mono g3).mono g4).mono g5) r5 hr5 hq λH' g6 hr6=>o5 U5 H' σ g6 (((S3.mono g4).mono g5).mono g6) hr6
end
end MI
namespace TPM
open PySem.W L2 HT MI
theorem aet(t b:Addr)(items2:Array Value)(n n2:Nat)(dd dd2:Option Addr)(sl sl2:Array (Option Value)) :
  Meets (Builtin.«tuple.__add__» ⟨[.ref t,.ref b],[]⟩) (λ_ R s=>s.heap.get? t=some {cls:=.type "tuple",dict:=dd,data:=.seq #[] n,slots:=sl}/\s.heap.get? b=some {cls:=.type "tuple",dict:=dd2,data:=.seq items2 n2,slots:=sl2}/\R (.ok (.ret (.ref b))) s):=by
 refine .of_wp λprog w A R s h=>?_;obtain⟨hp,g,d,tk,os⟩:=s;obtain⟨hl,hb,h⟩:=h
 wp_walk
 refine wpAny_of_eq sub_tuple_self ?_
 wp_walk
 exact⟨_,rfl,h⟩
noncomputable def aun(K:Fg):R2:=λx y H Q=>∃a b ys,x=.ref a/\y=.ref b/\SqT K H a []/\SqT K H b ys/\Q (.ref b) H
theorem apv:OpR X (binaryOp .Add) (aun X.K):=by
 intro aA s σ H x y v u Q I rx ry h
 obtain⟨a,b,ys,rfl,rfl,ha,hb,q⟩:=h;cases rx
 cases ry
 obtain⟨its,r1,p1,_⟩:=I.tuple ha;obtain⟨its2,r2,p2,_⟩:=I.tuple hb;cases r1
 obtain⟨⟨cls,dd,data,sl⟩,ho,hc,n,hd⟩:=id p1;obtain⟨⟨cls2,dd2,data2,sl2⟩,ho2,hc2,n2,hd2⟩:=id p2;simp only at hc hd hc2 hd2;subst hc hd hc2 hd2;exact concat_meets ⟨_,ho,rfl⟩ ⟨_,ho2,rfl⟩ fP seq_tuple_add F.slot_tuple_add F.entry_tuple_add (F.args_tuple_add_2 _ _) (aet a b its2.toArray n n2 dd dd2 sl sl2) ⟨ho,ho2,⟨.ref b,H,I,rfl,q⟩⟩
end TPM
namespace L2
open PyProof.Rows
section
variable{X:Cx}
theorem Inv.lstR(I:Inv X aA σ H s)(hH:Rd H l (.lst xs)):xs.length<=sizeLine/\∃(its:List Value) (n:Nat),Vals xs its/\xs.length=its.length/\s.heap.get? l=some {cls:=.type "list",data:=.seq its.toArray n}:=by
 obtain⟨z,its,n,r,e⟩:=hH.ok I.hok;exact⟨z,its,n,r,r.length,e⟩
noncomputable def auo:R2:=λx y H Q=>∃l b xs zs,x=.ref l/\y=.ref b/\Rd H l (.lst xs)/\Rd H b (.lst zs)/\xs.length+zs.length<=sizeLine/\∀p,H p=none->Q (.ref p) (upd H p (.lst (xs++zs)))
theorem apw:OpR X (binaryOp .Add) auo:=λaA s σ H x y v u Q I rx ry ⟨l,b,xs,zs,ex,ey,h1,h2,hz,q⟩=>by
 subst ex ey;cases rx
 cases ry
 obtain⟨_,as,_,va,la,ea⟩:=I.lstR h1;obtain⟨_,bs,_,vb,lb,eb⟩:=I.lstR h2;have app:as.toArray++bs.toArray=(as++bs).toArray:=by simp
 refine PySem.P.add_list ea eb ?_ (by simp;omega)
 rw[app];exact⟨.ref _,_,I.lnew (t':=s.toks) (va.append vb) (by simpa using hz),rfl,q _ I.fresh⟩
def aup:V->List V->Hp->VK->Prop:=λx vs H Q=>∃l b xs zs,x=.ref l/\vs=[.ref b]/\H l=some (.lst xs)/\Rd H b (.lst zs)/\xs.length+zs.length<=sizeLine/\Q .non (upd H l (.lst (xs++zs)))
theorem aeu:MtM X "list.extend" aup:=λaA s σ H x vs v us Q I rx rv ⟨l,b,xs,zs,ex,ev,h1,h2,hz,q⟩=>by
 subst ex ev;cases rx
 obtain⟨u,rfl,ru⟩:=rv.one;cases ru
 obtain⟨_,as,n,va,la,ea⟩:=I.lstM h1;obtain⟨_,bs,m,vb,lb,eb⟩:=I.lstR h2;have few:as.toArray.size+bs.toArray.size<=sizeLine:=by simp;omega
 have long:¬ (!as.toArray.isEmpty && Builtin.List.listTooLong (as.toArray.size+bs.toArray.size))=true:=by rw[a3i few,cO];exact aT
 exact e7 F.slot_list_extend ⟨_,ea,rfl⟩ F.entry_list_extend (F.args_list_extend_2 _ _) (AutoSeq1.list_extend_list_list_0 l as.toArray n b bs.toArray m long (by simp;omega) (by omega))
  ⟨ea,eb,.non,_,I.lset (its':=as++bs) h1 ea (by simp) (va.append vb) (by simpa using hz),rfl,q⟩
noncomputable def auq:R2:=λx y H Q=>∃l k xs,x=.ref l/\y=.int k/\Rd H l (.lst xs) /\ -(2^63)<=k/\k<2^63/\xs.length*k.toNat<=sizeLine/\∀p,H p=none->Q (.ref p) (upd H p (.lst (List.replicate k.toNat xs).flatten))
theorem apx(its:List Value)(k:Nat):List.foldl (λx1 x2=>x1++x2) #[] (List.replicate (if its.toArray.isEmpty=true then 0 else k) its.toArray)=(List.replicate k its).flatten.toArray:=by
 have g:∀m:Nat,List.foldl (λx1 x2=>x1++x2) #[] (List.replicate m its.toArray)=(List.replicate m its).flatten.toArray:=λm=>by simpa using foldl_rep its m []
 cases its with
 |nil=>simp
 |cons a r=>rw[aL (by simp),g]
theorem apy:OpR X (binaryOp .Mult) auq:=λaA s σ H x y v u Q I rx ry ⟨l,k,xs,ex,ey,h1,k1,k2,hz,q⟩=>by
 subst ex ey;cases rx
 obtain⟨t,rfl⟩:=ry;obtain⟨_,as,n,va,la,ea⟩:=I.lstR h1;have few:as.toArray.size*k.toNat<=sizeLine:=by rw[ax,<-la];exact hz
 have top:(sizeLine:Nat)<=(2^63-1) / 8:=by decide
 refine wpAny_binaryOp_repeat_ref (T := "list") (U := "int") (by decide) ⟨_,ea,rfl⟩ (λs'=>typeIs_int s' k t) noFill_list_mul F.fills_int_mul F.slot_int_rmul repeat_list F.slot_int_index.lookup
  (e7 F.slot_int_rmul (typeIs_int s k t) F.entry_int_rmul (F.args_int_rmul_2 _ _) (int___rmul___int_list k t l as.toArray n)
   ⟨ea,rfl,⟨_,ea,rfl⟩,e7 F.slot_list_mul ⟨_,ea,rfl⟩ F.entry_list_mul (F.args_list_mul_2 _ _)
    (AutoListH.list___mul___list_int_3 l as.toArray n k t (by rw[fitsIndex_both k1 k2];exact aT) (by omega) (by rw[a3i few];exact aT)) ⟨ea,?_⟩⟩)
 rw[apx];exact⟨.ref _,_,I.lnew (t':=s.toks) (va.rep k.toNat) (by rw[len_rep,Nat.mul_comm];exact hz),rfl,q _ I.fresh⟩
end
end L2
namespace MI
open L2 TPM
noncomputable def zu(d:D)(h:Hd):Option (List D):=match d with
 |.rol xs=>some xs
 |.ref i=>(match h[i]? with|some (.lst xs)=>some xs|_=>none)
 |_=>none
section
variable{K:Fg}{U:List Addr}{H:Hp}{h:Hd}
theorem a2h(r:Rep K U H x d)(hr:HRep K U H h)(e:zu d h=some xs):∃a vs,x=.ref a/\Rd H a (.lst vs)/\Reps K U H vs xs:=by
 cases r with
 |@rol a vs ys hp rs=>cases e;exact⟨a,vs,rfl,.inr hp,rs⟩
 |@ref a i hp =>
  obtain⟨ob,e1,e2⟩:=hr.at hp;simp only[zu,e1]at e
  cases ob with
  |lst ys=>cases e;obtain⟨vs,h3,h4⟩:=e2;exact⟨a,vs,rfl,.inl h3,h4⟩
  |_=>cases e
 |_=>cases e
noncomputable def gw:D->D->Hd->R D
 |.int i,.int j,h=>.ok (.int (i+j)) h
 |.str x,.str y,h=>if x.length+y.length<=LINE then .ok (.str (x++y)) h else .no
 |.tup [],.tup ys,h=>.ok (.tup ys) h
 |.tup (x::xs),.tup ys,h=>if (x::xs).length+ys.length<=LINE then .ok (.tup (x::xs++ys)) h else .no
 |x,y,h=>match zu x h,zu y h with
  |some xs,some ys=>if xs.length+ys.length<=LINE then .ok (.ref h.length) (h++[.lst (xs++ys)]) else .no
  |_,_=>.no
theorem agz(e1:zu x h=some xs)(e2:zu y h=some ys):gw x y h=if xs.length+ys.length<=LINE then .ok (.ref h.length) (h++[.lst (xs++ys)]) else .no:=by
 cases x<;>first|(cases e1;done)|(cases y<;>first|(cases e2;done)|(simp only[gw,e1,e2]))
theorem apz(x y:D)(h:Hd):(∃i j,x=.int i/\y=.int j)\/(∃i j,x=.str i/\y=.str j)\/(∃xs ys,x=.tup xs/\y=.tup ys)\/(∃xs ys,zu x h=some xs/\zu y h=some ys)\/gw x y h=.no:=by
 cases e1:zu x h with
 |some xs =>
  cases e2:zu y h with
  |some ys=>exact .inr (.inr (.inr (.inl ⟨xs,ys,rfl,rfl⟩)))
  |none =>
   refine .inr (.inr (.inr (.inr ?_)))
   cases x<;>first|(cases e1;done)|(simp only[gw,e1,e2])
 |none =>
  cases x with
  |int i=>cases y<;>first|exact .inl ⟨_,_,rfl,rfl⟩|exact .inr (.inr (.inr (.inr rfl)))
  |str i=>cases y<;>first|exact .inr (.inl ⟨_,_,rfl,rfl⟩)|exact .inr (.inr (.inr (.inr rfl)))
  |tup i=>cases y<;>first|exact .inr (.inr (.inl ⟨_,_,rfl,rfl⟩))|(cases i<;>exact .inr (.inr (.inr (.inr rfl))))
  |_=>refine .inr (.inr (.inr (.inr ?_)));simp only[gw,e1]
theorem akj:a0j K gw (λx y H Q=>(rI0 (λi j=>.int (i+j)) x y H Q\/(∃i j,x=.str i/\y=.str j/\i.length+j.length<=sizeLine/\Q (.str (i++j)) H)\/asu K x y H Q\/auo x y H Q)\/aun K x y H Q):=by
 intro E U H h x y dx dy Q rx ry hr o
 rcases apz dx dy h with⟨i,j,rfl,rfl⟩|⟨i,j,rfl,rfl⟩|⟨xs,ys,rfl,rfl⟩|⟨xs,ys,e1,e2⟩|e
 .cases rx;cases ry
  exact .inl (.inl ⟨i,j,rfl,rfl,ans o (.int _) hr⟩)
 .cases rx;cases ry
  simp only[gw]at o
  split at o
  .rename_i hc;exact .inl (.inr (.inl ⟨i,j,rfl,rfl,ll hc,ans o (.str _) hr⟩))
  .exact o.elim
 .cases rx with
  |@tup a vs _ ha r1 =>
  cases ry with
  |@tup b us _ hb r2 =>
  cases xs with
  |nil=>cases r1;exact .inr ⟨a,b,us,rfl,rfl,SqT.of ha,SqT.of hb,ans o (.tup hb r2) hr⟩
  |cons z xs =>
   simp only[gw]at o
   split at o
   .rename_i hc;refine .inl (.inr (.inr (.inl ⟨a,b,vs,us,rfl,rfl,SqT.of ha,SqT.of hb,λz=>(by subst z;cases r1),ll (by rw[r1.len,r2.len];exact hc),λz=>?_,λ_=>?_⟩)))
    .subst z;cases r2
     rw[bP]at o;exact ans o (.tup ha r1) hr
    .exact a2t (r1.app r2) hr o
   .exact o.elim
 .rw[agz e1 e2]at o;obtain⟨a,vs,rfl,h1,h2⟩:=a2h rx hr e1;obtain⟨b,us,rfl,h3,h4⟩:=a2h ry hr e2
  split at o
  .rename_i hc;exact .inl (.inr (.inr (.inr ⟨a,b,vs,us,rfl,rfl,h1,h3,ll (by rw[h2.len,h4.len];exact hc),ym (h2.app h4) hr o⟩)))
  .exact o.elim
 .rw[e]at o;exact o.elim
theorem ah0(ha:ME X E a fa)(hb:ME X E b fb):ME X E (.BinOp a .Add b pos) (s2 gw fa fb) :=
 aen (OpR.or (asf.or (aea.or (aop.or apw))) apv) akj ha hb
open Classical in
def yw(x y:D)(h:Hd):R D:=match y with
 |.int k=>(match x with
  |.int i=>if CMul i k then .ok (.int (i*k)) h else .no
  |_=>match zu x h with
   |some xs=>if (-(2^63)<=k/\k<2^63)/\xs.length*k.toNat<=LINE then .ok (.ref h.length) (h++[.lst (List.replicate k.toNat xs).flatten]) else .no
   |none=>.no)
 |_=>.no
theorem akk:a0j K yw (λx y H Q=>rI CMul (λi j=>.int (i*j)) x y H Q\/auq x y H Q):=by
 intro E U H h x y dx dy Q rx ry hr o
 cases dy with
 |int k =>
  obtain rfl:=agj ry
  cases hx:zu dx h with
  |some xs =>
   obtain⟨a,vs,rfl,h1,h2⟩:=a2h rx hr hx;have o':out K E (v6 K) U H (if (-(2^63)<=k/\k<2^63)/\xs.length*k.toNat<=LINE then .ok (.ref h.length) (h++[.lst (List.replicate k.toNat xs).flatten]) else .no) Q:=by
    cases dx<;>first|(cases hx;done)|(simp only[yw,hx]at o;exact o)
   split at o'
   .rename_i hc;exact .inr ⟨a,k,vs,rfl,rfl,h1,hc.1.1,hc.1.2,ll (by rw[h2.len];exact hc.2),ym (h2.flat _) hr o'⟩
   .exact o'.elim
  |none =>
   cases dx with
   |int i =>
    obtain rfl:=agj rx
    by_cases hc:CMul i k
    .simp only[yw,ai hc]at o;exact .inl ⟨i,k,rfl,rfl,hc,ans o (.int _) hr⟩
    .simp only[yw,aL hc]at o;exact o.elim
   |_=>simp only[yw,hx]at o;exact o.elim
 |_=>exact o.elim
theorem aq0(ha:ME X E a fa)(hb:ME X E b fb):ME X E (.BinOp a .Mult b pos) (s2 yw fa fb):=aen (asi.or apy) akk ha hb
noncomputable def ah1:D->List D->Hd->R D
 |.ref i,[.tup ys],h=>(match h[i]? with|some (.lst xs)=>if xs.length+ys.length<=LINE then .ok .non (h.set i (.lst (xs++ys))) else .no|_=>.no)
 |.ref i,[y],h=>(match h[i]?,zu y h with|some (.lst xs),some ys=>if xs.length+ys.length<=LINE then .ok .non (h.set i (.lst (xs++ys))) else .no|_,_=>.no)
 |_,_,_=>.no
theorem akl:amz K ah1 (λx vs H Q=>aup x vs H Q\/acs K x vs H Q):=by
 intro E U H h x dx xs ds Q rx r hr o
 unfold ah1 at o
 split at o
 .rename_i i ys
  cases rx with
  |@ref p _ hp =>
   cases r with
   |cons r1 rs =>
    cases rs
    cases r1 with
    |@tup b us zs hb rb =>
     split at o
     .rename_i xs hx;obtain⟨vs,h3,h4⟩:=hr.lst hp hx
      split at o
      .rename_i hc;exact .inr ⟨p,b,vs,us,rfl,rfl,h3,SqT.of hb,ll (by rw[h4.len,rb.len];exact hc),a6d (h4.app rb) hr hp .non o⟩
      .exact o.elim
     .exact o.elim
 .rename_i i y _
  cases rx with
  |@ref p _ hp =>
   cases r with
   |cons r1 rs =>
    cases rs
    split at o
    .rename_i xs ys hx hy;obtain⟨vs,h3,h4⟩:=hr.lst hp hx;obtain⟨b,us,rfl,h5,h6⟩:=a2h r1 hr hy
     split at o
     .rename_i hc;exact .inl ⟨p,b,vs,us,rfl,rfl,h3,h5,ll (by rw[h4.len,h6.len];exact hc),a6d (h4.app h6) hr hp .non o⟩
     .exact o.elim
    .exact o.elim
 .exact o.elim
end
end MI
namespace L2
open PyProof.Rows
noncomputable def ixI(n:Int):List Int->Option Nat
 |[]=>none
 |a::l=>if a=n then some 0 else (ixI n l).map (·+1)
end L2
namespace MI
open L2
noncomputable def ayn:D->Option Key
 |.int i=>some (.inl i)
 |.str x=>some (.inr x)
 |_=>none
noncomputable def b1d:D->Option (List Key)
 |.tup xs=>a1h ayn xs
 |_=>none
noncomputable def putD{κ:Type}[DecidableEq κ](kvs:List (κ×D))(k:κ)(d:D):List (κ×D):=if (kvs.any λkv=>decide (kv.1=k))=true then kvs.map λkv=>if kv.1=k then (kv.1,d) else kv else kvs++[(k,d)]
section
variable{K:Fg}{U:List Addr}{H:Hp}{h:Hd}
noncomputable def b1e:D->Option (Int×List Int)
 |.tup [.int r,.tup xs]=>(a9z xs).map λts=>(r,ts)
 |_=>none
variable{X:Cx}{E:XD}{a b e o i:Expr}{fa fb fc:SE}{pos:Pos}
noncomputable def b1f(o k v:D)(h:Hd):Option Hd:=match o with
 |.ref i=>(match h[i]? with
  |some (.dK kvs)=>(match ayn k with|some kk=>if kvs.length<LINE then some (h.set i (.dK (putD kvs kk v))) else none|none=>none)
  |some (.dT kvs)=>(match b1d k with|some kk=>if kvs.length<LINE then some (h.set i (.dT (putD kvs kk v))) else none|none=>none)
  |some (.dN kvs)=>(match b1e k with|some kk=>if kvs.length<LINE then some (h.set i (.dN (putD kvs kk v))) else none|none=>if kvs=[] then (ayn k).map λkk=>h.set i (.dK [(kk,v)]) else none)
  |_=>none)
 |_=>none
noncomputable def akm(fe fo fi:SE):SS:=λτ h=>(fe τ h).fl λv h1=>(fo τ h1).fl λo h2=>(fi τ h2).fl λk h3=>match b1f o k v h3 with|some h4=>.nx τ h4|none=>.no
end
end MI
namespace MI
open L2 ZP
noncomputable def aq1(x:D)(h:Hd):R Itm:=match srcOf x h with
 |some (xs,c)=>.ok ⟨((List.range xs.length).zip xs).map λp=>.tup [.int (p.1:Nat),p.2],c⟩ h
 |none=>.no
def aur(f:SE):SI:=λτ h=>(f τ h).bind aq1
end MI
namespace MI
open L2
noncomputable def b1g(lo:Int)(n:Nat):List D:=(List.range n).map λi=>D.int (lo-(i:Nat))
noncomputable def aus(ds:List D)(h:Hd):R Itm:=match ds with
 |[.int i,.int j,.int k]=>if k = -1/\B62 i/\B62 j then .ok ⟨b1g i (i-j).toNat,λ_=>True⟩ h else .no
 |_=>.no
theorem aq2:bootBuiltins "repr" = some (.builtin "repr"):=by decide +kernel
theorem bc{α β:Type}(a:α)(h:Hd)(k:α->Hd->R β):(R.ok a h).bind k=k a h:=rfl
theorem a1o{α:Type}(a:α)(h:Hd)(k:α->Hd->Fl):(R.ok a h).fl k=k a h:=rfl
noncomputable def thn(r:Fl)(g:SS):Fl:=match r with|.nx τ h=>g τ h|r=>r
theorem xx(f g:SS)(τ:Sd)(h:Hd):gj f g τ h=thn (f τ h) g:=by unfold gj thn;cases f τ h<;>rfl
theorem a1e(τ:Sd)(h:Hd)(g:SS):thn (.nx τ h) g=g τ h:=rfl
theorem a6i(d:D)(h:Hd)(g:SS):thn (.rt d h) g=.rt d h:=rfl
noncomputable def toR(r:Fl):R D:=match r with|.rt d h1=>.ok d h1|.nx _ h1=>.ok .non h1|.ex c h1=>.ex c h1|_=>.no
theorem dm(b:SS)(n:Nat)(ds:List D)(h:Hd):jw b n ds h=toR (b (a3m n ds) h):=by unfold jw toR;cases b (a3m n ds) h<;>rfl
theorem a7o(d:D)(h:Hd):toR (.rt d h)=.ok d h:=rfl
theorem adb(τ:Sd)(h:Hd):toR (.nx τ h)=.ok .non h:=rfl
theorem iy:∀{xs:List D},clos n xs↔∀x∈xs,clo n x
 |[]=>by simp[clos]
 |x::xs=>by simp[clos,iy (xs:=xs)]
theorem bz(i:Int):clo n (.int i):=by simp[clo]
theorem cj(i:Str):clo n (.str i):=by simp[clo]
theorem ud(i:Bool):clo n (.bl i):=by simp[clo]
theorem qj:clo n .non:=by simp[clo]
theorem bx:clos n []:=by simp[clos]
theorem ak(a:clo n x)(b:clos n xs):clos n (x::xs):=by simp only[clos];exact⟨a,b⟩
theorem gh(h:clos n xs):clo n (.tup xs):=by simpa[clo] using h
theorem v7(h:clos n xs):clo n (.rol xs):=by simpa[clo] using h
theorem gf{α:Type}{n:Nat}{f:α->D}{l:List α}(h:∀a∈l,clo n (f a)):clos n (l.map f):=by
 rw[iy]
 intro x hx
 obtain⟨a,ha,rfl⟩:=bF.mp hx;exact h a ha
mutual
theorem a7p(hm:n<=m):∀{d:D},clo n d->clo m d
 |.non,_=>by simp[clo]
 |.bl _,_=>by simp[clo]
 |.int _,_=>by simp[clo]
 |.str _,_=>by simp[clo]
 |.ty _,_=>by simp[clo]
 |.tup xs,h=>by simp only[clo]at h ⊢;exact wy hm h
 |.rol xs,h=>by simp only[clo]at h ⊢;exact wy hm h
 |.scr xs,h=>by simp only[clo]at h ⊢;exact wy hm h
 |.rod _ xs,h=>by simp only[clo]at h ⊢;exact wy hm h
 |.rdT _ xs,h=>by simp only[clo]at h ⊢;exact wy hm h
 |.exc _,_=>by simp[clo]
 |.ins _ _ xs,h=>by simp only[clo]at h ⊢;exact wy hm h
 |.ref i,h=>by simp only[clo]at h ⊢;omega
theorem wy(hm:n<=m):∀{xs:List D},clos n xs->clos m xs
 |[],_=>by simp[clos]
 |x::xs,h=>by simp only[clos]at h ⊢;exact⟨a7p hm h.1,wy hm h.2⟩
end
theorem wz(hm:n<=m)(h:wg n o):wg m o:=by
 cases o with
 |lst xs=>exact wy hm h
 |dK kvs=>exact wy hm h
 |dT kvs=>exact wy hm h
 |ins _ _=>exact wy hm h
 |dN _=>exact wy hm h
theorem abk{α:Type}{f:α->Option α}:∀{xs:List α},(∀x∈xs,f x=some x)->a1h f xs=some xs
 |[],_=>rfl
 |x::xs,h=>by
  unfold a1h;rw[h x aX,abk λy hy=>h y (aP _ hy)]
theorem adc(c:clo n d):a6f n h (k+1) d=some d:=by unfold a6f;rw[ai c]
theorem akn(c:wg n o):auj n h k o=some o:=by unfold auj;rw[ai c]
theorem ako{n k i:Nat}{h:Hd}{xs:List D}(hi:n<=i)(e:h[i]? = some (.lst xs))(c:clos n xs):a6f n h (k+2) (.ref i)=some (.rol xs):=by
 unfold a6f;rw[aL (by simp only[clo];omega)]
 simp only[e];rw[abk λx hx=>adc (iy.mp c x hx)];rfl
theorem abl{n:Nat}{d d':D}{h1:Hd}(e:a6f n h1 FU d=some d')(c:∀o∈h1.take n,wg n o):aa2 n (.ok d h1)=.ok d' (h1.take n):=by
 unfold aa2;simp only[e];rw[abk λo ho=>akn (c o ho)]
theorem je{h1:Hd}(e:clo n d)(c:∀o∈h1.take n,wg n o):aa2 n (.ok d h1)=.ok d (h1.take n):=abl (adc e) c
theorem ade(hi:n<=i)(e:h1[i]? = some (.lst xs))(cx:clos n xs)(c:∀o∈h1.take n,wg n o):aa2 n (.ok (.ref i) h1)=.ok (.rol xs) (h1.take n):=abl (ako hi e cx) c
theorem a5i(e:f τ h=.ok (.ref h.length) (h++[.lst xs]))(cx:clos h.length xs)(c:∀o∈h,wg h.length o):sZ f τ h=.ok (.rol xs) h:=by
 unfold sZ;rw[e,ade (a8 _) (by simp) cx (by simpa using c)]
 simp
def Pu(F:SF)(n:Nat)(ds:List D)(d:D):Prop:=∀h,j8 false n F ds h=.ok d h
def Dr(F:SF)(n:Nat)(ds:List D)(o:O)(d:D)(o':O):Prop:=∀p h,h[p]? = some o->j8 false n F (.ref p::ds) h=.ok d (h.set p o')
theorem a3r:∀{ds:List D},(∀d∈ds,clo 0 d)->a0y ds=[]/\a0d 0 ds=ds/\∀k,a0d k ds=ds
 |[],_=>⟨rfl,rfl,λ_=>rfl⟩
 |d::ds,h=>by
  obtain⟨a,b,c⟩:=a3r (ds:=ds) λx hx=>h x (aP _ hx);have hd:=h d aX;have nr:refOf d=none:=by cases d<;>first|rfl|(simp only[clo]at hd;omega)
  refine⟨?_,?_,λk=>?_⟩
  .simpa[a0y,nr] using a
  .cases d<;>first|(simp only[clo]at hd;omega)|(simp only[a0d,b])
  .cases d<;>first|(simp only[clo]at hd;omega)|(simp only[a0d,c])
theorem Pu.of{ds:List D}(hn:ds.length=n)(cd:∀x∈ds,clo 0 x)(e:F ds []=r)(z:aa2 0 r=.ok d [])(c:clo 0 d):Pu F n ds d:=λh=>by
 obtain⟨p1,p2,_⟩:=a3r cd;unfold j8;rw[ai hn];unfold an4;rw[p1];simp only[a1h,bg,c4,dQ];rw[ai ⟨dD,λx hx=>.inl (cd x hx),λo ho=>by simp at ho⟩,p2,e,z]
 simp[c,uv]
theorem Dr.of{ds:List D}(hn:ds.length+1=n)(cd:∀x∈ds,clo 0 x)(co:wg 0 o)(e:F (.ref 0::ds) [o]=r)(z:aa2 1 r=.ok d [o'])(c:clo 0 d)(co':wg 0 o'):Dr F n ds o d o':=λp h hp=>by
 obtain⟨p1,_,p3⟩:=a3r cd;have e1:a0y (.ref p::ds)=[p]:=by
  have:a0y (.ref p::ds)=p::a0y ds:=rfl
  rw[this,p1]
 have e2:a0d 0 (.ref p::ds)=.ref 0::ds:=by
  have:a0d 0 (.ref p::ds)=.ref 0::a0d 1 ds:=rfl
  rw[this,p3]
 unfold j8;rw[ai (by simpa using hn)]
 unfold an4;rw[e1];simp only[a1h,hp,ay,c4,dQ];have all:∀x∈(D.ref p::ds),clo 0 x\/isRef x:=λx hx=>by
  rcases aV.mp hx with rfl|hx
  .exact .inr ⟨p,rfl⟩
  .exact .inl (cd x hx)
 rw[ai ⟨by simp,all,λu hu=>by rw[aI.mp hu];exact co⟩,e2,e,z]
 simp[c,co',uv]
theorem aut{ds:List D}(hn:ds.length=n)(cd:∀x∈ds,clo 0 x)(e:F ds []=.ok (.ref i) h1)(ho:h1[i]? = some o)(co:wg 0 o)(h:Hd):j8 true n F ds h=.ok (.ref h.length) (h++[o]):=by
 obtain⟨p1,p2,_⟩:=a3r cd;unfold j8;rw[ai hn];unfold an4;rw[p1];simp only[a1h,bg,dB];rw[ai ⟨dD,λx hx=>.inl (cd x hx),λo ho=>by simp at ho⟩,p2,e]
 unfold arh;simp only[ho];rw[ai ⟨bE _,co,by simp⟩]
 simp[co,uv]
theorem akp(g:SG)(b:SS)(τ:Sd)(h:Hd):forL (λ_=>True) g b [] τ h=.nx τ h:=by rw[forL,ai True.intro]
noncomputable def trn(r:Fl)(k:Sd->Hd->Fl):Fl:=match r with|.nx τ h=>k τ h|.ct τ h=>k τ h|.bk τ h=>.nx τ h|r=>r
theorem ah2(g:SG)(b:SS)(x:D)(xs:List D)(τ τ1:Sd)(h h1:Hd)(e:g x τ h=.nx τ1 h1):forL (λ_=>True) g b (x::xs) τ h=trn (b τ1 h1) (forL (λ_=>True) g b xs):=by
 rw[forL,ai True.intro,e];dsimp only;unfold trn
 cases b τ1 h1<;>rfl
theorem auu(τ:Sd)(h:Hd)(k:Sd->Hd->Fl):trn (.nx τ h) k=k τ h:=rfl
theorem auv(d:D)(h:Hd)(k:Sd->Hd->Fl):trn (.rt d h) k=.rt d h:=rfl
theorem a0z{g:SG}{b:SS}{α:Type}(f:α->D)(I:List α->Sd->Hd->Prop)(Rt:D->Hd->Prop):∀(xs pre:List α) (τ:Sd) (h:Hd),
  (∀pre' x post τ h,pre++xs=pre'++x::post->I pre' τ h->∃τ1 h1,g (f x) τ h=.nx τ1 h1/\((∃τ2 h2,b τ1 h1=.nx τ2 h2/\I (pre'++[x]) τ2 h2)\/∃d h2,b τ1 h1=.rt d h2/\Rt d h2))->I pre τ h->
  (∃τ' h',forL (λ_=>True) g b (xs.map f) τ h=.nx τ' h'/\I (pre++xs) τ' h')\/∃d h',forL (λ_=>True) g b (xs.map f) τ h=.rt d h'/\Rt d h'
 |[],pre,τ,h,_,i0=>.inl ⟨τ,h,akp ..,by simpa using i0⟩
 |x::xs,pre,τ,h,st,i0=>by
  obtain⟨τ1,h1,e1,q⟩:=st pre x xs τ h rfl i0;rw[b6,ah2 _ _ _ _ _ _ _ _ e1]
  rcases q with⟨τ2,h2,e2,i2⟩|⟨d,h2,e2,r⟩
  .rw[e2,auu];have:=a0z f I Rt xs (pre++[x]) τ2 h2 (λpre' y post τ h e=>st pre' y post τ h (by simpa using e)) i2
   simpa using this
  .rw[e2,auv];exact .inr ⟨d,h2,rfl,r⟩
theorem a1a{g:SG}{b:SS}{α:Type}(f:α->D)(I:List α->Sd->Hd->Prop)(xs:List α)(τ:Sd)(h:Hd)
  (st:∀pre x post τ h,xs=pre++x::post->I pre τ h->∃τ1 h1,g (f x) τ h=.nx τ1 h1/\∃τ2 h2,b τ1 h1=.nx τ2 h2/\I (pre++[x]) τ2 h2) (i0:I [] τ h) :
  ∃τ' h',forL (λ_=>True) g b (xs.map f) τ h=.nx τ' h'/\I xs τ' h':=by
 rcases a0z f I (λ_ _=>False) xs [] τ h (λpre' x post τ h e i=>let ⟨τ1,h1,a,b⟩:=st pre' x post τ h e i; ⟨τ1,h1,a,.inl b⟩) i0 with⟨τ',h',a,b⟩|⟨_,_,_,z⟩
 .exact⟨τ',h',a,b⟩
 .exact z.elim
theorem adf{f:D->Hd->R D}{α:Type}(g:α->D)(I:List α->List D->Hd->Prop):∀(xs pre:List α) (ys:List D) (h:Hd),
  (∀pre' x post ys h,pre++xs=pre'++x::post->I pre' ys h->∃y h',f (g x) h=.ok y h'/\I (pre'++[x]) (ys++[y]) h')->I pre ys h->∃zs h',mapR (λ_=>True) f (xs.map g) h=.ok zs h'/\I (pre++xs) (ys++zs) h'
 |[],pre,ys,h,_,i0=>⟨[],h,by rw[cN,mapR,ai True.intro],by simpa using i0⟩
 |x::xs,pre,ys,h,st,i0=>by
  obtain⟨y,h1,e1,i1⟩:=st pre x xs ys h rfl i0;obtain⟨zs,h',e2,i2⟩:=adf g I xs (pre++[x]) (ys++[y]) h1 (λpre' z post ys h e=>st pre' z post ys h (by simpa using e)) i1
  refine⟨y::zs,h',?_,by simpa using i2⟩
  rw[b6,mapR,ai True.intro,e1];show(mapR _ f (xs.map g) h1).bind _=_;rw[e2];rfl
theorem aa6{f:D->Hd->R D}{α:Type}(g F:α->D){h:Hd}:∀{xs:List α},(∀x∈xs,f (g x) h=.ok (F x) h)->mapR (λ_=>True) f (xs.map g) h=.ok (xs.map F) h
 |[],_=>by rw[cN,mapR,ai True.intro];rfl
 |x::xs,st=>by
  rw[b6,mapR,ai True.intro,st x aX];show(mapR _ f (xs.map g) h).bind _=_;rw[aa6 g F λy hy=>st y (aP _ hy)];rfl
theorem aa7{f:D->Hd->R (Option D)}{α:Type}(g:α->D)(F:α->Option D){h:Hd}:∀{xs:List α},(∀x∈xs,f (g x) h=.ok (F x) h)->aix (λ_=>True) f (xs.map g) h=.ok (xs.filterMap F) h
 |[],_=>by rw[cN,aix,ai True.intro];rfl
 |x::xs,st=>by
  rw[b6,aix,ai True.intro,st x aX];show(aix _ f (xs.map g) h).bind _=_;rw[aa7 g F λy hy=>st y (aP _ hy)];show R.ok ((F x).toList++xs.filterMap F) h=_
  cases e:F x<;>simp[bJ,e]
theorem auw(I:Nat->Sd->Hd->Prop)(N:Sd->Hd->Prop)(Rt:D->Hd->Prop)
  (st:∀m τ h,I m τ h->(∃h1,c τ h=.ok false h1/\N τ h1)\/∃h1,c τ h=.ok true h1/\((∃τ2 h2 m',f τ h1=.nx τ2 h2/\m'<m/\I m' τ2 h2)\/∃d h2,f τ h1=.rt d h2/\Rt d h2)) :
  ∀(m n:Nat) (τ:Sd) (h:Hd),m<n->I m τ h->(∃τ' h',sWh c f n τ h=.nx τ' h'/\N τ' h')\/∃d h',sWh c f n τ h=.rt d h'/\Rt d h':=by
 intro m
 induction m using Nat.strongRecOn with
 |ind m ih =>
  intro n τ h hn i0
  cases n with
  |zero=>omega
  |succ n =>
   rcases st m τ h i0 with⟨h1,e1,q⟩|⟨h1,e1,q⟩
   .exact .inl ⟨τ,h1,by rw[sWh,e1];rfl,q⟩
   .rcases q with⟨τ2,h2,m',e2,lt,i2⟩|⟨d,h2,e2,r⟩
    .have e3:sWh c f (n+1) τ h=sWh c f n τ2 h2:=by
      rw[sWh,e1,a1o,ai rfl,e2]
     rw[e3];exact ih m' lt n τ2 h2 (by omega) i2
    .refine .inr ⟨d,h2,?_,r⟩;rw[sWh,e1,a1o,ai rfl,e2]
structure KD (P:Program) (w:World) (K:Fg) (a:Addr) (kvs:List (Str×Str)):Prop where
 sys:(a == sysModules)=false
 ex:∃(o:Obj) (vs:List (Key×Value)),K.lookup a=some o/\KV (kvs.map λp=>((.inr p.1:Key),V.str p.2)) vs/\∀h:Heap,h.get? a=some o->h.DictOf (a5t P w) a vs
section
variable{X:Cx}{E:XD}{e:Expr}{fa:SE}{pos p:Pos}{a:Addr}{kvs:List (Str×Str)}{x:Str}
theorem KD.at(kd:KD X.prog X.w X.K a kvs)(I:Inv X aA σ H s):∃vs,KV (kvs.map λp=>((.inr p.1:Key),V.str p.2)) vs/\s.heap.DictOf (a5t X.prog X.w) a vs:=by
 obtain⟨o,vs,l,r,d⟩:=kd.ex;exact⟨vs,r,d _ (I.bk _ _ (I.mod.kin _ _ l))⟩
end
mutual
def toPy:D->Option PyData
 |.non=>some .none
 |.bl b=>some (.bool b)
 |.int i=>some (.int i)
 |.str x=>some (.str x)
 |.tup xs=>(abm xs).map .tuple
 |.rol xs=>(abm xs).map .list
 |.rod [] []=>some (.dict [])
 |_=>none
def abm:List D->Option (List PyData)
 |[]=>some []
 |x::xs=>match toPy x,abm xs with|some p,some ps=>some (p::ps)|_,_=>none
end
mutual
def noL:D->Bool
 |.rol _=>false
 |.tup xs=>ari xs
 |_=>true
def ari:List D->Bool
 |[]=>true
 |x::xs=>noL x && ari xs
end
section
variable{P:Program}{w:World}{K:Fg}{U:List Addr}{H:Hp}{h:Heap}
mutual
theorem ah3(ok:HOk P w H h):∀(d:D) {v:V} {u:Value} {p:PyData},Rep K U H v d->RelV v u->toPy d=some p->∃as,Reads h u p as/\(noL d=true->sysModules∉as)
 |.non=>by
  rename_i v u p
  intro rp r e
  cases rp;cases e
  obtain rfl:u=Value.none:=r
  exact⟨_,.none,λ_=>by simp⟩
 |.bl b=>by
  rename_i v u p
  intro rp r e
  cases rp;cases e
  obtain rfl:u=Value.bool b:=r
  exact⟨_,.bool b,λ_=>by simp⟩
 |.int i=>by
  rename_i v u p
  intro rp r e
  cases rp;cases e
  obtain⟨t,rfl⟩:=r;exact⟨_,.int i t,λ_=>by simp⟩
 |.str x=>by
  rename_i v u p
  intro rp r e
  cases rp;cases e
  obtain⟨t,rfl⟩:=r;exact⟨_,.str x t,λ_=>by simp⟩
 |.tup xs=>by
  rename_i v u p
  intro rp r e
  cases rp with
  |@tup a _ _ hp rs =>
  simp only[toPy,aQ]at e;obtain⟨ps,e,rfl⟩:=e;obtain rfl:u=Value.ref a:=r;obtain⟨_,its,vr,o,e1,⟨e2,_⟩,n,e3⟩:=(show ObjOk P w H h a (.tup _) from ok a _ hp)
  obtain⟨as,q,s⟩:=a8k ok xs rs vr e;exact⟨as,.tuple e1 e2 e3 q,λz=>s (by simpa[noL] using z)⟩
 |.rol xs=>by
  rename_i v u p
  intro rp r e
  cases rp with
  |@rol a _ _ hp rs =>
  simp only[toPy,aQ]at e;obtain⟨ps,e,rfl⟩:=e;obtain rfl:u=Value.ref a:=r;obtain⟨o,hp⟩:=hp;obtain⟨_,_,its,n,vr,e1⟩:=(show ObjOk P w H h a (.frz o (.lst _)) from ok a _ hp)
  obtain⟨as,q,s⟩:=a8k ok xs rs vr e;exact⟨a::as,.list e1 rfl rfl q,λz=>by simp[noL]at z⟩
 |.rod ks xs=>by
  rename_i v u p
  intro rp r e
  cases ks with
  |cons k ks=>simp[toPy]at e
  |nil =>
   cases xs with
   |cons x xs=>simp[toPy]at e
   |nil =>
    cases rp with
    |@rod a _ us _ _ hp ek rs =>
    simp only[toPy,Option.some.injEq]at e;subst e;obtain rfl:u=Value.ref a:=r;obtain⟨_,_,sy,vs,kv,o,es,ep,e1,e2,e3,_,pr,_⟩:=(show ObjOk P w H h a (.frz _ (.dK _)) from ok a _ hp)
    have us0:=eZ.mp ek;subst us0;cases kv
    have:es.toList=[]:=by cases hh:es.toList with|nil=>rfl|cons x y=>rw[hh]at pr;cases pr
    refine⟨_,.dict (kvs:=[]) e1 e2.1 e3 (by rw[this];exact .nil) (by rw[this];exact .nil),λ_=>?_⟩
    intro z
    simp at z
    subst z;simp at sy
 |.ty _=>by intro rp r e;simp[toPy]at e
 |.scr _=>by intro rp r e;simp[toPy]at e
 |.ref _=>by intro rp r e;simp[toPy]at e
 |.rdT _ _=>by intro rp r e;simp[toPy]at e
 |.exc _=>by intro rp r e;simp[toPy]at e
 |.ins _ _ _=>by intro rp r e;simp[toPy]at e
theorem a8k(ok:HOk P w H h):∀(ds:List D) {vs:List V} {us:List Value} {ps:List PyData},Reps K U H vs ds->Vals vs us->abm ds=some ps->∃as,ReadsAll h us ps as/\(ari ds=true->sysModules∉as)
 |[]=>by
  intro rs qs e
  cases rs;cases qs;cases e
  exact⟨[],.nil,λ_=>by simp⟩
 |d::ds=>by
  intro rs qs e
  cases rs with
  |cons r rs =>
  cases qs with
  |cons q qs =>
  simp only[abm]at e
  split at e
  .rename_i p ps' e1 e2;cases e
   obtain⟨as,a1,s1⟩:=ah3 ok d r q e1;obtain⟨bs,a2,s2⟩:=a8k ok ds rs qs e2;refine⟨as++bs,.cons a1 a2,λz=>?_⟩;simp only[ari,af]at z
   intro m
   rcases bG.mp m with m|m
   .exact s1 z.1 m
   .exact s2 z.2 m
  .cases e
end
theorem aq3(ok:HOk P w H h){v:V}{d:D}{u:Value}{p:PyData}(rp:Rep K U H v d)(r:RelV v u)(e:toPy d=some p):∃as,Reads h u p as/\(noL d=true->sysModules∉as):=ah3 ok d rp r e
end
def okR(d:D)(p:PyData):Prop:=(p.hasDict=true->noL d=true)/\p.showable=true/\p.depth<=60/\p.shown.length<=sizeLine
def auy(K:Fg):List V->Hp->VK->Prop:=λxs H Q=>∃v U d p,xs=[v]/\Rep K U H v d/\toPy d=some p/\okR d p/\Q (.str p.shown) H
theorem ah4{X:Cx}(hg:X.A.guards=some [])(hu:X.A.units+64<cLine):CallR X (.builtin "repr") (auy X.K):=by
 intro aA s σ H xs us Q I r ⟨v,U,d,p,ex,rp,ep,⟨hd,hs,dp,sz⟩,q⟩
 subst ex;obtain⟨u,rfl,rx⟩:=vals1 r;have big:∀a:Addr,u=.ref a->wpAny (model X.prog X.w) X.A (call (.builtin "repr") [u]) (EP X aA σ Q) X.xe s:=λa eu=>by
  subst eu;obtain⟨as,rd,sy⟩:=aq3 I.hok rp rx ep;exact repr_of_reads' rd hs (λz=>sy (hd z)) hg (by omega) (λb o e=>e) (λh' u tk hk=>⟨.str p.shown,H,I.kept hk,⟨u,rfl⟩,q⟩) sz
 cases rp with
 |non =>
  cases ep
  obtain rfl:u=Value.none:=rx
  exact PySem.P.repr_of_none ⟨.str _,H,I.tok _,⟨_,rfl⟩,q⟩
 |bl b =>
  cases ep
  obtain rfl:u=Value.bool b:=rx
  exact PySem.P.repr_of_bool ⟨.str _,H,I.tok _,⟨_,rfl⟩,q⟩
 |int i =>
  cases ep
  obtain⟨t,rfl⟩:=rx;exact PySem.P.repr_of_int (by simpa[PyData.showable] using hs) ⟨.str _,H,I.tok _,⟨_,rfl⟩,q⟩
 |str x =>
  cases ep
  obtain⟨t,rfl⟩:=rx;exact PySem.P.repr_of_str ⟨.str _,H,I.tok _,⟨_,rfl⟩,q⟩ sz
 |@tup a vs xs hp r=>exact big a rx
 |@rol a vs xs hp r=>exact big a rx
 |@rod a o us ks xs hp ek rs=>exact big a rx
 |ty _=>cases ep
 |scr _ _=>cases ep
 |ref _=>cases ep
 |rdT _ _ _=>cases ep
 |exc _ _ _=>cases ep
 |ins _ _ _ _=>cases ep
open Classical in
def abn:List D->Hd->R D
 |[x],h=>(match toPy x with|some p=>if okR x p then .ok (.str p.shown) h else .no|none=>.no)
 |_,_=>.no
theorem akq:acv K abn (auy K):=by
 intro E U H h xs ds Q r hr o
 unfold abn at o
 split at o
 .split at o
  .rename_i p ep
   split at o
   .rename_i ok
    cases r with
    |cons r rs =>
     cases rs
     exact⟨_,U,_,p,rfl,r,ep,ok,ans o (.str _) hr⟩
   .exact o.elim
  .exact o.elim
 .exact o.elim
theorem aa8:CallR X (.builtin "isinstance") (λxs H Q=>∃a o us T b,xs=[.ref a,.ty T]/\H a=some (.frz o (.dK us))/\PySem.W.kitOne X.K (.type "dict") (.type T)=some b/\Q (.bl b) H):=by
 intro aA s σ H xs us Q I r h
 obtain⟨a,o,kv,T,b,rfl,ea,e,q⟩:=h;obtain⟨u,w',rfl,rx,rt⟩:=vals2 r;cases rt
 obtain rfl:u=Value.ref a:=rx
 obtain⟨_,_,_,vs,_,p⟩:=(show ObjOk X.prog X.w H s.heap a (.frz o (.dK kv)) from I.hok a _ ea)
 obtain⟨o',es,ep,h1,h2,_⟩:=p;exact bS fB I.kIn ⟨o',h1,h2.1⟩ e (λz=>nomatch z) λtk=>⟨.bl b,H,I.tok tk,rfl,q⟩
noncomputable def kh:List D->Hd->R D
 |[.rod ks xs,.ty T],h=>(match aiy "dict" T with|some b=>.ok (.bl b) h|none=>.no)
 |ds,h=>amy ds h
theorem akr:acv K kh (λxs H Q=>(∃x T t b,xs=[x,.ty T]/\TyOf K H x t/\PySem.W.kitOne K t (.type T)=some b/\Q (.bl b) H)\/∃a o us T b,xs=[.ref a,.ty T]/\H a=some (.frz o (.dK us))/\PySem.W.kitOne K (.type "dict") (.type T)=some b/\Q (.bl b) H):=by
 intro E U H h xs ds Q r hr o
 unfold kh at o
 split at o
 .split at o
  .rename_i b hb
   cases r with
   |cons r1 rs =>
    cases rs with
    |cons r2 rs2 =>
     cases rs2
     cases r2
     cases r1 with
     |rod hp ek rr=>exact .inr ⟨_,_,_,_,b,rfl,hp,agn hb,ans o (.bl _) hr⟩
  .exact o.elim
 .exact .inl (apj E U H h xs _ Q r hr o)
end MI
namespace SRC
open L2 MI
def vf:SE :=
 (s2 gw (s2 yw (sI 2) (sA ax2 (aa (sV 0) aq))) (sA ak6 (aa (s2 gLt (sV 0) (sI 0)) aq)))
def ye:SS :=
 (gj (jm 1 (sZ (qi (sIt (sZ (a2g (sV 0) oN (oS (sI 63))))) t1 vf [])))
 (ju (sA wu (aa (sV 1) (aa (sI 0) (aa (sI 0) (aa (sI 0) (aa (s2 a3n (sA a76 (aa (sV 1) aq)) (sI 2147483647)) aq))))))))
def a0o:SS :=
 (gj (a1n a1m (sV 0) (sI 3) (sI 1))
 (gj (sIf (zj (sT (s2 hEq (s2 gIx (sV 0) (sI 2)) (sI 0))) (sT (s2 gLt (s2 gIx (sV 0) (sI 1)) (sA my (aa (s2 gIx (sV 0) (sI 0)) aq)))))
 (gj (jm 2 (s2 gIx (s2 gIx (sV 0) (sI 0)) (s2 gIx (sV 0) (sI 1))))
 (gj (a1n a1m (sV 0) (sI 1) (sI 1))
 (sIf (sT (s2 gGe (sV 2) (s2 a6e (sI 10) (sI 18))))
 (aeo (sV 2) (sV 0) (sI 2))
 (aeo (s2 a3n (s2 gw (s2 yw (s2 gIx (sV 0) (sI 4)) (sI 31)) (sV 2)) (sI 2147483647)) (sV 0) (sI 4)))))
 sNx)
 (gj (sIf (sT (s2 gGt (s2 gIx (sV 0) (sI 2)) (sI 0)))
 (gj (jm 3 (s2 a3n (s2 gIx (sV 0) (sI 2)) (sV 1)))
 (gj (a1n a74 (sV 0) (sI 2) (sV 1))
 (ju (sV 3))))
 sNx)
 (gj (jm 3 (s2 a3n (s2 a6e (s2 gw (s2 gw (s2 gIx (sV 0) (sI 4)) (sI 1)) (s2 yw (s2 gIx (sV 0) (sI 3)) (sI 7919))) (sI 3)) (sI 2147483647)))
 (ju (s2 a3n (s2 a74 (s2 a3n (s2 a6e (s2 gw (s2 yw (sV 3) (sI 48271)) (s2 gIx (sV 0) (sI 3))) (sI 2)) (sI 2147483629)) (sI 64)) (sV 1)))))))
def xf:SS :=
 (gj (jm 0 (sC (.str " !\"#$&'()*+,-./0123456789:;<=>?@ABCDEFGHIJKLMNOPQRSTUVWXYZ[\\]^_`")))
 (ju (s2 gw (sV 0) (sC (.str "abcdefghijklmnopqrstuvwxyz{|}~\n")))))
def vg(aj:SF)(bw:SF):SS :=
 (gj (jm 4 (sA (j8 false 2 aj) (aa (sV 0) (aa (sA my (aa (sV 1) aq)) aq))))
 (gj (acy 2 a1m (s2 gIx (sV 1) (sV 4)))
 (jm 1 (s2 gw (a2g (sV 1) oN (oS (sV 4))) (a2g (sV 1) (oS (s2 gw (sV 4) (sI 1))) oN)))))
def yf(aj:SF)(bw:SF):SS :=
 (gj (jm 1 (sA (j8 false 0 bw) aq))
 (gj (jm 2 (sC (.str "")))
 (gj (a9w (sRg a0l (aa (s2 gw (sI 1) (sA (j8 false 2 aj) (aa (sV 0) (aa (sI 6) aq)))) aq)) (kN 3) (vg aj bw))
 (ju (sV 2)))))
end SRC
namespace L2
open PySem.W PyProof.Rows
structure Air (stack:List Env) (H:Hp) (h0 B:Heap) (a C:Addr) (t:Value) (h:Heap):Prop where
 fly:Heap.FlyingW B stack a (.ref C) t h
 bk:∀b o,h.get? b=some o->b∉frs stack->(H b≠none\/∃o0,h0.get? b=some o0)->B.get? b=some o
noncomputable def CXE(P:Program)(w:World):CXT:=λouter H s E e s' =>
 ∃a C t B H',e=.ref a/\s'.os=s.os/\AllBare s'.gens/\Un (frs outer) [] H H' s.heap s'.heap/\HOk P w H' s'.heap/\Air outer H' s.heap B a C t s'.heap/\E (.ref C) none H'
section
variable{P:Program}{w:World}{H H':Hp}{h h':Heap}
theorem HOk.is(x:HOk P w H h)(e:H a=some o):∃ob,h.get? a=some ob:=by
 have:=x a o e
 cases o with
 |lst xs=>obtain⟨_,_,_,_,e⟩:=this;exact⟨_,e⟩
 |tup xs=>obtain⟨_,_,_,ob,e,_⟩:=this;exact⟨_,e⟩
 |dK kvs=>obtain⟨_,_,_,_,o,_,_,e,_⟩:=this;exact⟨_,e⟩
 |dT kvs=>obtain⟨_,_,_,_,o,_,_,e,_⟩:=this;exact⟨_,e⟩
 |set S n=>obtain⟨o,_,_,_,e,_⟩:=this;exact⟨_,e⟩
 |ins C dx fs=>obtain⟨_,_,_,e,_⟩:=this;exact⟨_,e⟩
 |own y=>exact this
 |xd fs=>obtain⟨_,⟨_,_,_,e,_⟩,_⟩:=this;exact⟨_,e⟩
 |rng lo hi=>obtain⟨_,_,_,e⟩:=this;exact⟨_,e⟩
 |frz ob u=>exact⟨_,this.1⟩
 |tbl ps=>exact⟨_,this⟩
 |met f y=>exact⟨_,this⟩
 |ext φ=>exact this.2.1
theorem HOk.track(x:HOk P w H h)(k:∀b u,H b≠none->h.get? b=some u->h'.get? b=some u):HOk P w H h':=λa o e =>
 (x a o e).stay (λb u hb q=>k b u (by
  rcases hb with rfl|hb
  .rw[e];simp
  .rw[hb];simp) q) (λ_ q=>q) λ_ _ q=>q
end
section
variable{P:Program}{w:World}{K:Fg}{mg:Str->Option Value}{base:Heap}{N:List Str}{qual:Str}{aB:Scope}{f:Addr}{cd:Value}{A:Around}{outer:List Env}{s0:Shared}{H0:Hp}{E:XK}{aA:List (Addr×Obj)}{σ:St}{H:Hp}{s:Shared}
abbrev cxE(P:Program)(w:World)(K:Fg)(mg:Str->Option Value)(base:Heap)(N:List Str)(qual:Str)(aB:Scope)(f:Addr)(cd:Value)(A:Around)(outer:List Env)(s:Shared)(H:Hp)(E:XK):Cx:=afm (CXE P w) P w K mg base N qual aB f cd A outer s H E
theorem adg{B:Heap}{h2:Heap}(I:Inv (cxE P w K mg base N qual aB f cd A outer s0 H0 E) aA σ H {s with heap:=h1})(hB:∀b o,h1.get? b=some o->b∉frs (envOfC qual aB s0.heap.objs.size f cd::outer)->(H b≠none\/∃o0,s0.heap.get? b=some o0)->B.get? b=some o)
  (sl:∀b o,h1.get? b=some o->b∈frs outer->∃sl,h2.get? b=some {o with slots:=sl}) (fly:Heap.FlyingW B outer a (.ref C) t h2) (e:E (.ref C) none H):CXE P w outer H0 s0 E (.ref a) {s with heap:=h2}:=by
 have lo:∀b,b∈frs (envOfC qual aB s0.heap.objs.size f cd::outer)->b=s0.heap.objs.size\/b∈frs outer:=λb hb=>by
  unfold frs at hb ⊢;rw[bJ]at hb
  rcases aV.mp hb with rfl|hb
  .exact .inl rfl
  .exact .inr hb
 have stk:∀b,b∈frs (envOfC qual aB s0.heap.objs.size f cd::outer)->H b=none:=λb hb=>I.stkFree b hb;have old:∀b o,s0.heap.get? b=some o->b∉frs outer->b∉frs (envOfC qual aB s0.heap.objs.size f cd::outer):=λb o q n z=>by
  rcases lo b z with rfl|z
  .exact absurd (aS q) (cG _)
  .exact n z
 have tr:∀b u,H b≠none->h1.get? b=some u->h2.get? b=some u:=λb u hn q=>fly.1 _ _ (hB b u q (λz=>hn (stk b z)) (.inl hn));have ba:=I.base;refine⟨a,C,t,B,H,rfl,I.os,I.bare,⟨?_,?_,ba.free,?_,ba.tups,ba.frzs,ba.tbls⟩,I.hok.track tr,⟨fly,?_⟩,e⟩
 .intro b o q n hf hx
  exact fly.1 _ _ (hB b o (ba.keep b o q n hf hx) (old b o q hf) (.inr ⟨o,q⟩))
 .intro b o q n hf hx
  obtain⟨s1,q1⟩:=ba.slot b o q n hf hx;obtain⟨s2,q2⟩:=sl b _ q1 hf;exact⟨s2,q2⟩
 .intro b o q hx
  obtain⟨o1,q1⟩:=ba.there b o q hx
  by_cases hf:b∈frs outer
  .obtain⟨s2,q2⟩:=sl b _ q1 hf;exact⟨_,q2⟩
  .exact⟨_,fly.1 _ _ (hB b o1 q1 (old b o q hf) (.inr ⟨o,q⟩))⟩
 .intro b o q nf c
  have hh:b∉frs (envOfC qual aB s0.heap.objs.size f cd::outer):=λz=>by
   rcases c with c|⟨o0,c⟩
   .exact c (stk b z)
   .exact old b o0 c nf z
  obtain⟨o1,q1⟩:∃o1,h1.get? b=some o1:=by
   rcases c with c|⟨o0,c⟩
   .cases e1:H b with
    |none=>exact absurd e1 c
    |some u=>exact I.hok.is e1
   .exact ba.there b o0 c (by intro z;cases z)
  have q2:=hB b o1 q1 hh c;have q3:=fly.1 _ _ q2;rw[q3]at q;cases q
  exact q2
theorem a4q(I:Inv X aA σ H s)(hb:b∈frs X.stack)(q:s.heap.get? b=some o):∀vs,o.data≠.fields vs:=by
 obtain⟨_,o1,q1,d⟩:=I.stack.mem hb;rw[q]at q1;cases q1
 exact d
theorem ayo(hE:∀C H,E' (.ref C) none H->E (.ref C) none H):a7f (CXE P w) (cxE P w K mg base N qual aB f cd A outer s0 H0 E) E':=by
 rintro aA σ H s e s' I ⟨a,C,t,B,H',rfl,os,bare,un,hok,air,e⟩
 have I2:Inv (cxE P w K mg base N qual aB f cd A outer s0 H0 E) aA σ H' s':=I.call' os un hok bare (by intro b z;cases z)
 have hin:∀b,b∈frs outer->b∈frs (envOfC qual aB s0.heap.objs.size f cd::outer):=λb hb=>by
  unfold frs at hb ⊢;rw[bJ];exact aP _ hb
 refine wpAny_leaves_onW (base:=B) I.ok.frames (L:=s0.heap.objs.size) rfl air.fly λh2 fl up=>?_;refine adg (h1:=s'.heap) I2 (λb o q nf c=>air.bk b o q nf ?_) (λb o q hb=>up b o q (a4q I2 (hin b hb) q)) fl (hE _ _ e)
 rcases c with c|⟨o0,c⟩
 .exact .inl c
 .exact .inr (I.base.there b o0 c (by intro z;cases z))
theorem ayp(I:Inv (cxE P w K mg base N qual aB f cd A outer s0 H0 E) aA σ H s)(mk:Heap.MadeExcOf s.heap h' a (.ref C) args)(e:E (.ref C) none H):(cxE P w K mg base N qual aB f cd A outer s0 H0 E).xe (.ref a) {s with heap:=h' }:=by
 have hin:∀b,b∈frs outer->b∈frs (envOfC qual aB s0.heap.objs.size f cd::outer):=λb hb=>by
  unfold frs at hb ⊢;rw[bJ];exact aP _ hb
 have st:=I.stack;refine wpAny_leaves_madeW (base:=hideAll s.heap (frs (envOfC qual aB s0.heap.objs.size f cd::outer))) (h:=s.heap) I.ok.frames (L:=s0.heap.objs.size) rfl (λb o q=>of_hideAll _ q) (funFrames_hide st λenv he b hb=>cT.mpr ⟨env,he,hb⟩) mk λh2 t fl tu bt up=>?_;exact adg (h1:=s.heap) I (λb o q nf _=>hideAll_get _ q nf) (λb o q hb=>up b o (mk.keeps b o q) (a4q I (hin b hb) q)) fl e
end
structure XCls (K:Fg) (C:Addr):Prop where
 obj:∃(nm q:Str) (N:Addr) (bs bm:List Value) (hdct:Bool) (sn:List Str) (sub:List Value) (ab:Bool) (col:Option Bool) (dd:Option Addr) (k0 k1 k2 k3 k5:Option Value),
  K.lookup C=some (excClassObj nm q C N bs bm hdct sn sub ab col dd k0 k1 k2 k3 k5 "ValueError.__new__")/\nsOkIn K N=true/\nsIn K N "__init__" = some none/\tailIn K [.type "ValueError",.type "Exception",.type "BaseException",.type "object"] bm=true
def auz(t:TA)(Ex:Hp->Prop):TS:=λ_ σ H=>t σ H λvs H1=>vs.length<=sizeLine/\Ex H1
section
variable{X:Cx}{C:Addr}{x:Str}{np cpos pos:Pos}{e:Expr}{es:List Expr}{t:TA}{Ex:Hp->Prop}
theorem aks(hC:XCls X.K C)(hg:Gl X x)(hm:X.mg x=some (.ref C))(hc:X.calm=true)(ha:PA X (e::es) t)
  (lk:∀(aA:List (Addr×Obj)) (σ:St) (H:Hp) (s:Shared) (h':Heap) (a:Addr) (args:List Value),Inv X aA σ H s->Heap.MadeExcOf s.heap h' a (.ref C) args->Ex H->X.xe (.ref a) {s with heap:=h' })
  (hdb:(x == ("__debug__" : Str))=false:=by decide) (he:starEach (e::es) X.env=(false,eval e X.env)::starEach es X.env:=by rfl) (hpl:(backTo cpos (starEach es X.env)).any (·.1)=false:=by rfl) :
  PS X (.Raise (some (.Call (.Name x np) (e::es) [] cpos)) none pos) (auz t Ex):=by
 intro aA s σ H D I h
 obtain⟨nm,q,N,bs,bm,hdct,sn,sub,ab,col,dd,k0,k1,k2,k3,k5,lo,ok,ni,ti⟩:=hC.obj;refine wpAny_Raise_call_subT (C:=C) (nm:=nm) (q:=q) (N:=N) (bs:=bs) (bm:=bm) (hdct:=hdct) (sn:=sn) (sub:=sub) (ab:=ab) (col:=col) (dd:=dd) (k0:=k0) (k1:=k1) (k2:=k2) (k3:=k3) (k5:=k5)
  fk (mN:=X.base.nsMap N) ((tail_of_in I.kIn ti).hasType fk.hasBase) (I.ok.hd hc) (by rw[he];show(false || (backTo cpos (starEach es X.env)).any (·.1))=false;rw[hpl];rfl) (nsMap_none_of_in I.ok.mod.kin ok ni) (a4g I hg hm ⟨rfl,?_⟩ hdb)
 have h2:=ha cpos aA s σ H _ I h;rw[he]at h2 ⊢;refine eR (thn h2 λus s1 ⟨vs,H1,I1,r,z,ex⟩=>?_);exact⟨rfl,by rw[<-r.length];exact z,I1.kIn _ _ lo,.keeps (.of_isNs (isNs_of_in I1.ok.mod.kin ok)) I1.bk,tail_of_in I1.kIn ti,λh' a mk=>lk aA σ H1 s1 h' a us I1 mk ex⟩
end
end L2
namespace L2
open PySem.W PyProof.Rows Builtin Builtin.ObjectAttr Builtin.Getset_descriptor
section
variable{prog:Program}{w:World}{A:Around}{E:Value->Shared->Prop}{s:Shared}{K:Frag}{x D:Addr}{ox:Obj}{odo:Option Obj}
structure XKit (K:Frag) (D:Addr):Prop where
 ga:findIn K (.ref D) "__getattribute__" = some (some (.builtin "BaseException.__getattribute__"))
 gn:findIn K (.ref D) "__getattr__" = some none
 cl:(clsIn K D).isSome=true
 ca:findIn K (.ref D) "__class__" = some (some (.builtin "object.__class__"))
 sp:specialIn K (.builtin "object.__class__") "__get__" = some (some (.builtin "getset_descriptor.__get__"))
 tk:takesIn K (.builtin "object.__class__")=some true
 ob:mroIn K D (.type "object")=some true
 be:subIn K (.ref D) (.type "BaseException")=some true
 kc:kitCls K (.ref D) (.ref D)=some true
abbrev ExAt(x D:Addr)(h:Heap):Prop:=∃o,h.get? x=some o/\o.cls=.ref D
theorem ExAt.ty(I:ExAt x D h):Looks M h (typeOf (.ref x)) (.ref D):=by
 obtain⟨o,q,c⟩:=I;exact c ▸ (Looks.ld q).andThen .now
theorem aq4(Z:XKit K D)(X:K.In s.heap)(I:ExAt x D s.heap)(h:R (.ok (.ret (.ref D))) s):codeAny (model prog w) A (.call (.builtin "getset_descriptor.__get__") ⟨[.builtin "object.__class__",.ref x,tp],[]⟩) R s:=by
 obtain⟨hh,g,d,t,os⟩:=s;have T0:=ExAt.ty (M:=model prog w) I;have T1:=looks_mroIn (M:=model prog w) X Z.ob;refine eS KF.slot_gs.plain KF.entry_gs (KF.slot_gs.check _ _ _ _ _ _ _ _ KF.type_class (KF.args_gs _ _ _) ?_);unfold Builtin.«getset_descriptor.__get__» descrGet;rw[dga_obj];refine ag (aN ?_);unfold descrGetter descrCheckInstance descrNameAndClass isInstance;simp only[KF.owner_class]
 repeat lk
 refine⟨Code.quiet_builtin _ (by decide +kernel),eY KF.entry_class ?_⟩;unfold Builtin.«object.__class__» shownTypeOf
 repeat lk
 exact h
theorem akt(Z:XKit K D)(X:K.In h):Looks M h (Builtin.ObjectAttr.find (.ref x) (.ref D) "__class__") (.bind (.builtin "getset_descriptor.__get__") (.builtin "object.__class__")):=by
 refine(looks_findIn X Z.ca).andThen (Looks.andThen (a:=some (.builtin "getset_descriptor.__get__")) (looks_specialIn X Z.sp) (Looks.andThen (a:=some (.builtin "getset_descriptor.__get__",.builtin "object.__class__")) ?_ (Looks.tag .now)));exact(looks_takesIn X Z.tk).andThen .now
theorem ah5(Z:XKit K D)(X:K.In s.heap)(I:ExAt x D s.heap)(h:Q (some (.ref D)) {s with toks:=s.toks+1}):wpAny (model prog w) A (getAttr? (.ref x) "__class__") Q E s:=by
 obtain⟨hh,g,d,t,os⟩:=s;have T0:=ExAt.ty (M:=model prog w) I;have T1:=looks_findIn (M:=model prog w) X Z.ga;have T2:=looks_findIn (M:=model prog w) X Z.gn;have T3:=akt (M:=model prog w) (x:=x) Z X;have T4:Looks (model prog w) hh (isInstance (.ref x) (.type "BaseException")) true:=T0.andThen (looks_subIn X Z.be);have f3:=ff.ga.bind (.ref x);have nb:(Value.builtin "BaseException.__getattribute__" == Value.builtin "object.__getattribute__")=false:=by decide +kernel
 have nh:(onTheHeap (Value.ref D) && Value.builtin "BaseException.__getattribute__" == Value.builtin "object.__getattribute__")=false:=by rw[nb];rfl
 unfold getAttr? getAttrBy? getAttrBy;refine ag (wpAny_mkText (ag (wpAny_attempt (cD (ag (T0.at (ag (T1.at ?_))))))));dsimp only;rw[nh,aL aT];unfold getAttrByItsOwn;show wpAny _ _ (typeLookup (.ref D) "__getattr__">>=λbefore=>_) _ _ _;refine ag (T2.at (ag (wpAny_attempt (cD ?_))));show wpAny _ _ (boundAndCalled _ _ _) _ _ _;unfold boundAndCalled;rw[f3];refine ag (aN (wpAny_call (eS ff.ga.plain PySem.F.entry_bexc_ga ?_)))
 have k1:builtinKind "BaseException.__getattribute__" = some .slot:=by decide +kernel
 have k2:splitId "BaseException.__getattribute__" = some ("BaseException","__getattribute__"):=by decide +kernel
 have k3:=PySem.F.args_bexc_ga (.ref x) (.str "__class__" t);simp only[checkBuiltinCall,k1,k2];show wpAny _ _ (isInstance (.ref x) (.type "BaseException")>>=λb=>_) _ _ _;refine ag (T4.at ?_);rw[aL (by decide)]
 refine bO (Q:=λ_ s'=>s'=⟨hh,g,d,t+1,os⟩) (E:=λ_ _=>False) ?_ (λu s' e=>?_) (λ_ _ z=>z.elim)
 .repeat (any_goals (first|assumption|rfl|wp_step))
 .subst e;unfold Builtin.«object.__getattribute__»
  repeat (first|with_reducible refine T0.at ?_|with_reducible refine T3.at ?_|wp_step)
  exact aq4 (s:=⟨hh,g,d,t+1,os⟩) Z X I (aN (handed_on rfl (aN h)))
theorem XKit.at(Z:XKit K D):∃c o cd sl,K.lookup D=some ⟨c,o,.cls cd,sl⟩:=by
 have:=Z.cl
 unfold clsIn at this
 split at this
 .exact⟨_,_,_,_, ‹_›⟩
 .cases this
theorem XKit.no(Z:XKit K D){its:List Value}(X:K.In h)(q:h.get? tp=some ⟨.type "tuple",dd,.seq its.toArray n,sl⟩):(Value.ref D == .ref tp)=false :=
 bN.mpr λe=>by
  obtain⟨_,_,_,_,lo⟩:=Z.at;rw[Value.ref.inj e]at lo;have:=X _ _ lo;rw[q]at this;cases this
theorem adh(Z:XKit K D):KitX K (.ref x) (.ref D) (ExAt x D) :=
 ⟨λ_ _ _ I=>ExAt.ty I,λ_ _ X _=>(kit_cls X Z.kc).2.1,λ_ _ _ _ _ _ X q=>Z.no X q,λX I q=>ah5 Z X I q⟩
end
end L2
namespace L2
open PySem.W PyProof.Rows
section
variable{X:Cx}{aA:List (Addr×Obj)}{σ:St}{H H1 H':Hp}{s s1 s':Shared}
theorem a8l(I:Inv X aA σ H s)(hN:X.N.Nodup)(hi:X.N[i]? = some n)(hk:X.env.scope.names.lookup n=some .local)
  (h:∀s',Inv X aA (σ.set i none) H s'->Q () s'):wpAny M A (do bindName X.env n .none;unbindBehindTheSuite X.env n pos) Q E s:=by
 obtain⟨m,hn,hl⟩:=id I.loc;have hcls:(X.env.scope.kind == .class || (X.env.scope.kind == .module && X.env.locals != X.env.globals))=false:=by rw[I.ok.kind];rfl
 have cne:=I.cne;obtain⟨oL,_,_,hoL,_⟩:=id hn;refine wpAny_nameGoes_keeps hk hn hcls λh' v hn' hs=>h _ ?_;have far:∀b o,X.s₀.heap.get? b=some o->b≠X.env.locals:=λb o e=>bY (aW (aS e) I.ok.above);refine⟨I.ok,I.os,I.bare,⟨λb o e n hb hx=>(hs.2 b (far b o e)).trans (I.base.keep b o e n hb hx),λb o e n hb hx=>?_,I.base.free,λb o e hx=>?_,I.base.tups,I.base.frzs,I.base.tbls⟩,⟨_,hn',λj y v' e1 e2 e3=>?_⟩,λy c e=>?_,I.free,I.freeC,λp hp=>?_,I.hok.track λb u hb q=>?_,by simpa using I.len⟩
 .obtain⟨sl,q⟩:=I.base.slot b o e n hb hx;exact⟨sl,(hs.2 b (far b o e)).trans q⟩
 .obtain⟨o1,q⟩:=I.base.there b o e hx;exact⟨o1,(hs.2 b (far b o e)).trans q⟩
 .have ji:j≠i:=λz=>by
   subst z;rw[List.getElem?_set]at e2;simp at e2
  rw[cH (dW ji)]at e2;obtain⟨u',r',q⟩:=hl j y v' e1 e2 e3;refine⟨u',r',?_⟩
  rcases q with⟨k,e⟩|⟨k,c,e,z⟩
  .refine .inl ⟨k,?_⟩;have:y≠n:=λe=>ji (a80 hN e1 (e ▸ hi));simp[this,e]
  .exact .inr ⟨k,c,e,z.sameBut hs (cne y c e)⟩
 .obtain⟨w',z⟩:=I.cell y c e;exact⟨w',z.sameBut hs (cne y c e)⟩
 .obtain⟨e,n,ne,nf,d⟩:=I.pin p hp;exact⟨(hs.2 p.1 ne).trans e,n,ne,nf,d⟩
 .refine(hs.2 b λz=>?_).trans q;subst z;exact hb I.free
theorem an8(I1:Inv X aA σ H1 s1)(os:s'.os=s1.os)(bare:AllBare s'.gens)(un:Un (frs X.stack) [] H1 H' s1.heap s'.heap)(hok:HOk X.prog X.w H' s'.heap)(air:Air X.stack H' s1.heap B a C t s'.heap)
  (st:B.StaysIn h5) (up:s'.heap.UpToSlots h5) (tk:Nat):Inv X aA σ H' {s' with heap:=h5,toks:=tk}:=by
 have I2:Inv X aA σ H' s':=I1.call' os un hok bare (by intro b z;cases z)
 refine I1.call' (s':={s' with heap:=h5,toks:=tk}) os ⟨λb o q n hf hx=>?_,λb o q n hf hx=>?_,un.free,λb o q hx=>?_,un.tups,un.frzs,un.tbls⟩ (hok.track λb u hn q=>?_) bare (by intro b z;cases z)
 .exact st _ _ (air.bk b o (un.keep b o q n hf hx) hf (.inr ⟨o,q⟩))
 .obtain⟨s2,q2⟩:=un.slot b o q n hf hx;obtain⟨s3,q3⟩:=up b _ q2 (a4q I2 hf q2);exact⟨s3,q3⟩
 .obtain⟨o1,q1⟩:=un.there b o q hx
  by_cases hf:b∈frs X.stack
  .obtain⟨s3,q3⟩:=up b _ q1 (a4q I2 hf q1);exact⟨_,q3⟩
  .exact⟨_,st _ _ (air.bk b o1 q1 hf (.inr ⟨o,q⟩))⟩
 .exact st _ _ (air.bk b u q (λz=>hn (I2.stkFree b z)) (.inl hn))
abbrev Cx.inEx(X:Cx)(a:Addr):Cx:={X with A:=X.A.mark (some (.ref a)),calm:=false,xe:=λ_ _=>False}
theorem Cx.Ok.inEx(ok:X.Ok)(a:Addr):(X.inEx a).Ok:=⟨ok.mod,ok.kind,ok.glob,ok.blt,ok.above,ok.inj,ok.has,ok.cab,λz=>(Bool.noConfusion (show false=true from z)),ok.frames,ok.stk,ok.exf,ok.bs,ok.bsz,ok.noex,ok.exfs,ok.funs,ok.frf⟩
theorem Inv.inEx(I:Inv X aA σ H s)(a:Addr):Inv (X.inEx a) aA σ H s:=⟨I.ok.inEx a,I.os,I.bare,I.base,I.loc,I.cell,I.free,I.freeC,I.pin,I.hok,I.len⟩
theorem Inv.outEx(ok:X.Ok)(I:Inv (X.inEx a) aA σ H s):Inv X aA σ H s:=⟨ok,I.os,I.bare,I.base,I.loc,I.cell,I.free,I.freeC,I.pin,I.hok,I.len⟩
noncomputable def exO(a:Addr):HO:=.ext λh=>∃o,h.get? a=some o
theorem Inv.exc(I:Inv X aA σ H s)(I1:Inv X aA σ H1 s1)(he:s.heap.get? a=some oe)(ha:H a=none)(na:s1.heap.get? a=none):Inv X aA σ (upd H a (.frz oe (exO a))) s:=by
 have old:∀b o,s1.heap.get? b=some o->b≠a:=λb o q z=>by subst z;rw[na]at q;cases q
 have sm:∀b o,s1.heap.get? b=some o->upd H a (.frz oe (exO a)) b=H b:=λb o q=>jk (old b o q);have kp:∀b u,H b=some u->upd H a (.frz oe (exO a)) b=some u:=λb u q=>by
  rw[jk]
  .exact q
  .intro z;subst z;rw[ha]at q;cases q
 have ba:=I.base;refine⟨I.ok,I.os,I.bare,⟨ba.keep,ba.slot,λb o q n hx=>?_,ba.there,λb xs q=>kp _ _ (ba.tups b xs q),λb o u q=>kp _ _ (ba.frzs b o u q),λb ps q=>?_⟩,I.loc,I.cell,?_,λy c e=>?_,λp hp=>?_,λb u q=>?_,I.len⟩
 .obtain⟨o1,q1⟩:=I1.base.there b o q hx;rw[sm b o1 q1];exact ba.free b o q n hx
 .obtain⟨more,q1⟩:=ba.tbls b ps q;exact⟨more,kp _ _ q1⟩
 .obtain⟨_,⟨o,_,_,q,_⟩,_⟩:=I1.loc;rw[sm _ _ q];exact I.free
 .obtain⟨v,o,q,_⟩:=I1.cell y c e;rw[sm _ _ q];exact I.freeC y c e
 .obtain⟨e,n,ne,nf,d⟩:=I.pin p hp;exact⟨e,by rw[sm _ _ (I1.pin p hp).1];exact n,ne,nf,d⟩
 .by_cases hb:b=a
  .subst hb;rw[oh]at q;cases q
   exact⟨he,⟨oe,he⟩,⟨oe,he⟩,λh1 h2 ⟨o,q⟩ k=>⟨o,k o q⟩⟩
  .rw[jk hb]at q;exact(I.hok b u q).stay (λ_ _ _ z=>z) (λc z=>kp _ _ z) λc xs z=>kp _ _ z
end
def XP(X:Cx)(aA:List (Addr×Obj))(σ:St)(E:XK)(e:Value)(s':Shared):Prop:=∃s1 H1,Inv X aA σ H1 s1/\CXE X.prog X.w X.stack H1 s1 E e s'
structure Hnd (X:Cx) (R:Addr) (x n:Str) (i:Nat):Prop where
 hg:Gl X x
 hm:X.mg x=some (.ref R)
 nd:X.N.Nodup
 hi:X.N[i]? = some n
 lo:X.env.scope.names.lookup n=some .local
 st:X.stack=X.env::X.outer/\X.env.frame=some X.env.locals
 db:(x == ("__debug__" : Str))=false
section
variable{X:Cx}{aA:List (Addr×Obj)}{σ:St}{s s':Shared}
noncomputable def ayq(D:Ends)(i:Nat):Ends:={nx:=λσ H=>D.nx (σ.set i none) H,rt:=D.rt,bk:=λσ H=>D.bk (σ.set i none) H,ct:=λσ H=>D.ct (σ.set i none) H}
theorem aku(N:Hnd X R x n i)(hs:∀a,PSs (X.inEx a) (b0::suite) ts)
  (mt:∀C H,E (.ref C) none H->exmOne X.K (.ref C) (.ref R)=some true/\∀a oe,oe.cls=.ref C->H a=none->ts (ayq D i) (σ.set i (some (.ref a))) (upd H a (.frz oe (exO a))))
  (h:XP X aA σ E e s') :
  wpAny (model X.prog X.w) X.A (noteFrame e X.env) (λ_ s2=>wpAny (model X.prog X.w) X.A (setFlight e none) (λ_ s3=>wpAny (model X.prog X.w) X.A (handleBy e X.env [.ExceptHandler (some (.Name x np)) (some n) (b0::suite) pos]) (SP X aA D) X.xe s3) X.xe s2) X.xe s':=by
 obtain⟨s1,H1,I1,a,C,t,B,H',rfl,os,bare,un,hok,air,e⟩:=h;obtain⟨mt1,mt2⟩:=mt C H' e;have ok:=I1.ok;have fr:X.A.frames=some (X.env::X.outer):=by rw[<-N.st.1];exact ok.frames
 have fl:=air.fly;rw[N.st.1]at fl;have na:s1.heap.get? a=none:=by
  cases q:s1.heap.get? a with
  |none=>rfl
  |some o =>
   obtain⟨oe,vs,he,_,hd,_⟩:=fl.first
   have I2:Inv X aA σ H' s':=I1.call' os un hok bare (by intro b z;cases z)
   have nf:a∉frs X.stack:=λz=>a4q I2 z he _ hd;have:=air.bk a oe he nf (.inr ⟨o,q⟩);rw[fl.2.1]at this;cases this
 have ha:H' a=none:=by
  cases q:H' a with
  |none=>rfl
  |some u =>
   obtain⟨oe,vs,he,_,hd,_⟩:=fl.first
   have I2:Inv X aA σ H' s':=I1.call' os un hok bare (by intro b z;cases z)
   have nf:a∉frs X.stack:=λz=>a4q I2 z he _ hd;have:=air.bk a oe he nf (.inl (by rw[q];simp))
   rw[fl.2.1]at this;cases this
 refine wpAny_looks_onW fr N.st.2 fl λh4 held4 up4=>?_;refine wpAny_landsW held4 λh5 fl5 up5=>?_;have I5:=an8 I1 os bare un hok air fl5.1 (up4.trans up5) s'.toks;obtain⟨ob,hob,hobc⟩:=fl5.there;have I5m:=I5.inEx a;refine wpAny_handleBy_cons (codeAny_handlers_test (a4g I5m N.hg N.hm ?_ N.db)) (by intro q;cases q)
 have LT:Looks (model X.prog X.w) h5 (typeOf (.ref a)) (.ref C):=hobc ▸ (Looks.ld hob).andThen .now;refine(exm_one I5.kIn LT mt1).here ?_;refine codeAny_handlers_suite_as ?_;refine lands_againW fl5 λh6 fl6 up6=>?_;have I6:=an8 I1 os bare un hok air fl6.1 ((up4.trans up5).trans up6) s'.toks;obtain⟨oe,vs,he,hec,hed,_⟩:=fl6.first
 have I7:=(I6.exc I1 he ha na).inEx a;refine a3e (X:=X.inEx a) I7 N.nd N.hi (.inl N.lo) (v:=.ref a) rfl (λs8 I8=>?_) (.inr N.lo);refine bO (hs a aA s8 _ _ (ayq D i) I8 (mt2 a oe hec ha)) (λf s9 q=>?_) λ_ _ z=>z.elim;show wpAny (model X.prog X.w) X.A (do bindName X.env n .none;unbindBehindTheSuite X.env n pos) (λ_ s3=>SP X aA D f s3) X.xe s9
 cases f with
 |next =>
  obtain⟨σ',H9,I9,q⟩:=q;exact a8l (I9.outEx ok) N.nd N.hi N.lo λs10 I10=>⟨_,H9,I10,q⟩
 |brk =>
  obtain⟨σ',H9,I9,q⟩:=q;exact a8l (I9.outEx ok) N.nd N.hi N.lo λs10 I10=>⟨_,H9,I10,q⟩
 |cont =>
  obtain⟨σ',H9,I9,q⟩:=q;exact a8l (I9.outEx ok) N.nd N.hi N.lo λs10 I10=>⟨_,H9,I10,q⟩
 |ret u =>
  obtain⟨v,σ',H9,I9,r,q⟩:=q;exact a8l (I9.outEx ok) N.nd N.hi N.lo λs10 I10=>⟨v,_,H9,I10,r,q⟩
def PEx(X:Cx)(e:Expr)(t:St->Hp->VK->XK->Prop):Prop :=
 ∀(aA:List (Addr×Obj)) (s:Shared) (σ:St) (H:Hp) (Q:VK) (E:XK),Inv X aA σ H s->t σ H Q E->wpAny (model X.prog X.w) X.A (eval e X.env) (EP X aA σ Q) (XP X aA σ E) s
def PSx(X:Cx)(st:List Stmt)(t:Ends->XK->St->Hp->Prop):Prop :=
 ∀(aA:List (Addr×Obj)) (s:Shared) (σ:St) (H:Hp) (D:Ends) (E:XK),Inv X aA σ H s->t D E σ H->wpAny (model X.prog X.w) X.A (execs st X.env) (SP X aA D) (XP X aA σ E) s
variable{e:Expr}{es:List Expr}{pos:Pos}
theorem aa9{st:Stmt}{D:Ends}{W:Value->Shared->Prop}(h:wpAny (model X.prog X.w) X.A (exec st X.env) (SP X aA D) W s):wpAny (model X.prog X.w) X.A (execs [st] X.env) (SP X aA D) W s:=by
 refine fO (thn h λf s1 q=>?_)
 cases f with
 |next=>exact dF q
 |ret v=>exact q
 |brk=>exact q
 |cont=>exact q
theorem aq5(hN:X.N.Nodup)(hi:X.N[i]? = some x)(hx:Loc X.env.scope x)(he:PEx X e t)(hs:swapsWith e (some (.Name x pos')) pos.line X.env=pure false:=by rfl)(hf:Hf X x:=by first|exact .inl rfl|exact .inr rfl) :
  PSx X [.Assign [.Name x pos'] e pos] (λD E σ H=>t σ H (λv H1=>D.nx (σ.set i (some v)) H1) E):=by
 intro aA s σ H D E I h
 refine aa9 (wpAny_Assign_Name (thn (he aA s σ H _ E I h) λv s1 ⟨y,H1,I1,r1,q1⟩=>?_) hs);exact a3e I1 hN hi hx r1 (λs2 I2=>⟨_,H1,I2,q1⟩) hf
theorem av0(hc:PT X.nox c tc)(ha:PSx X a t)(hb:PSx X b u):PSx X [.If c a b pos] (λD E σ H=>tc σ H λk H1=>if k=true then t D E σ H1 else u D E σ H1):=by
 intro aA s σ H D E I h
 refine aa9 (wpAny_If (bO (hc aA s σ H _ (I.wish _) h) (λd s1 ⟨H1,I1,q1⟩=>?_) λ_ _ z=>z.elim))
 cases d with
 |true=>exact ha aA s1 σ H1 D E I1.unwish q1
 |false=>exact hb aA s1 σ H1 D E I1.unwish q1
theorem av1(N:Hnd X R x n i)(hb:PSx X body t)(hs:∀a,PSs (X.inEx a) (b0::suite) ts) :
  PS X (.Try body [.ExceptHandler (some (.Name x np)) (some n) (b0::suite) hp] [] [] pos) (λD σ H=>t D (λcls d H'=>∃C,cls=.ref C/\exmOne X.K (.ref C) (.ref R)=some true/\∀a oe,oe.cls=.ref C->H' a=none->ts (ayq D i) (σ.set i (some (.ref a))) (upd H' a (.frz oe (exO a)))) σ H):=by
 intro aA s σ H D I h
 refine wpAny_Try_except (bO (hb aA s σ H D _ I h) (λf s1 q=>?_) λe s1 q=>aku N hs (λC H' z=>?_) q)
 .cases f with
  |next=>exact dF q
  |ret v=>exact q
  |brk=>exact q
  |cont=>exact q
 .obtain⟨C',z,m1,m2⟩:=z;cases z
  exact⟨m1,m2⟩
theorem akv(F:FnOk X.prog X.w X.K X.mg X.base (CXE X.prog X.w) k f fd ps sp)(hr:Room k X.A)(hg:Gl X x)(hm:X.mg x=some (.ref f))(hk:PySem.W.keepIn X.K (.ref f)=true)(hb:Binds X.K fd ps [])
  (ha:PA X.nox (e::es) t) (hdb:(x == ("__debug__" : Str))=false:=by decide) (he:starEach (e::es) X.env=(false,eval e X.env)::starEach es X.env:=by rfl) (hpl:(backTo pos (starEach es X.env)).any (·.1)=false:=by rfl) :
  PEx X (.Call (.Name x p) (e::es) [] pos) (λσ H Q E=>t σ H λvs H1=>sp vs H1 Q E):=by
 intro aA s σ H Q E I h
 refine dE (a4g I hg hm ?_ hdb);refine PySem.W.callWith_K (h₀:=X.base) I.ok.mod.kin hk (bO (ha pos aA s σ H _ (I.wish _) h) (λus s1 ⟨vs,H1,I1,r,q⟩=>⟨I1.unwish.kIn,?_⟩) λ_ _ z=>z.elim) he hpl;have I1:=I1.unwish;have hl:us.length=ps.length:=by rw[<-r.length];exact F.len _ _ _ _ q
 have bd:=hb s1 us I1.kIn (by rw[bP];exact hl)
 rw[bP]at bd;refine wpAny_call (eG (F.run X.A X.stack s1 H1 ⟨us,[]⟩ us vs Q E hr I1.env0 bd r q) λr s' hq=>?_)
 cases r with
 |error e=>exact⟨s1,H1,I1,hq⟩
 |ok fl =>
  cases fl with
  |ret u=>exact I1.after hq
  |next=>exact False.elim hq
  |brk=>exact False.elim hq
  |cont=>exact False.elim hq
end
end L2
namespace MI
open L2
noncomputable def aaq(mg:Str->Option Value)(E:XK):XD:=λc _ H' _=>∃C,mg c=some (.ref C)/\E (.ref C) none H'
noncomputable def spX(K:Fg)(mg:Str->Option Value)(n:Nat)(F:SF):Sp:=λvs H Q E=>vs.length=n/\∃U ds h,Reps K U H vs ds/\HRep K U H h/\out K (aaq mg E) (v6 K) U H (F ds h) Q
structure DnX (P:Program) (w:World) (K:Fg) (mg:Str->Option Value) (base:Heap) (k:Nat) (x:Str) (ps:List Str) (sp:Sp) (f:Addr) (fd:FuncData):Prop where
 ok:FnOk P w K mg base (CXE P w) k f fd ps sp
 m:mg x=some (.ref f)
 kp:PySem.W.keepIn K (.ref f)=true
 b:Binds K fd ps []
theorem a6j(Fu:Fun K x qual st f fd)(S:FnScope N ps (fj st))
  (hb:∀(cdv:Value) (A:Around) (outer:List Env) (s:Shared) (H:Hp) (E:XK),Room k (A.deeper (PyProof.Rows.envOfC qual (fj st) s.heap.objs.size f cdv))->MSs (cxE P w K mg base N qual (fj st) f cdv A outer s H E) (aaq mg E) (qd st) b) :
  FnOk P w K mg base (CXE P w) (k+1) f fd ps (spX K mg ps.length (jw b N.length)):=by
 obtain⟨oc,od,kV,doc,pm,an,cdv,ct,osl,rfl,lk,hcd⟩:=Fu.ex;refine asr lk hcd S (λvs H Q E h=>h.1) λA outer s H vs Q E hr h=>⟨_,hb cdv A outer s H E hr,?_⟩;obtain⟨hl,U,ds,h,r,hr',o⟩:=h;refine⟨U,a3m N.length ds,h,a7k r,hr',?_⟩;unfold jw at o
 cases hbd:b (a3m N.length ds) h with
 |rt d h1=>rw[hbd]at o;exact o
 |nx τ h1=>rw[hbd]at o;exact λU' H' σ' g1 S1 hr1=>o U' H' .non g1 .non hr1
 |ex c h1=>rw[hbd]at o;exact o
 |bk τ h1=>rw[hbd]at o;exact o.elim
 |ct τ h1=>rw[hbd]at o;exact o.elim
 |no=>rw[hbd]at o;exact o.elim
section
variable{K:Fg}{U:List Addr}{H:Hp}{h:Hd}{n:Nat}
def u5(n:Nat)(F:SF):SF:=λds h=>open Classical in if ∀d∈ds,clo 0 d then (match F ds [] with|.ex c _=>if ds.length=n then .ex c h else .no|_=>j8 false n F ds h) else .no
theorem noex:j8 m n F ds h≠.ex c h1:=by
 unfold j8
 split
 .unfold an4
  intro e
  repeat (first|(split at e)|cases e)
 .intro e;cases e
theorem adi(ne:∀c h1,r≠.ex c h1)(o:out K E (v6 K) U H r Q):out K E' (v6 K) U H r Q:=by
 cases r with
 |ok a h=>exact o
 |ex c h=>exact absurd rfl (ne c h)
 |no=>exact o
theorem HRep.stays(hr:HRep K U H h)(k:∀a u,H a=some u->H' a=some u):Gr U H U H'/\HRep K U H' h:=by
 have G:Gr U H U H':=⟨⟨[],by simp,by simp⟩,λa vs q=>k _ _ q,λa o u q=>k _ _ q,λa u q _=>k _ _ q,λa u q=>⟨u,k _ _ q⟩⟩
 refine⟨G,hr.nd,hr.len,λi a o e1 e2=>?_⟩;have r:=hr.obj i a o e1 e2;obtain⟨u,hu,_⟩:=r.some;exact r.mono G (by rw[hu];exact k a u hu)
theorem aaa:∀{ds:List D},(∀d∈ds,clo 0 d)->clos 0 ds
 |[],_=>by simp[clos]
 |d::ds,h=>by simp only[clos];exact⟨h d aX,aaa λx hx=>h x (aP _ hx)⟩
theorem a8m(r:Reps K U H vs ds)(hr:HRep K U H h)(o:out K E2 (v6 K) U H (u5 n F ds h) Q)(hE:∀c H' ,Gr U H U H'->HRep K U H' h->E2 c U H' h->aaq mg E c U H' h) :
  spX K mg n F vs H (λv H1=>∃L,aa1 H1 L/\∀H2,FrzOf L H1 H2->Q v H2) E:=by
 unfold u5 at o
 split at o
 .rename_i hc;have ok:out K E2 (v6 K) U H (j8 false n F ds h) Q->spX K mg n F vs H (λv H1=>∃L,aa1 H1 L/\∀H2,FrzOf L H1 H2->Q v H2) E:=λo=>by
   obtain⟨l,U0,ds0,h0,r0,hr0,o0⟩:=a8i r hr (adi (E':=X0) (λc h1=>noex) o) E;refine⟨l,U0,ds0,h0,r0,hr0,?_⟩
   cases e:F ds0 h0 with
   |ok a h1=>rw[e]at o0;exact o0
   |ex c h1=>rw[e]at o0;exact λU' H' g hr=>(o0 U' H' g hr).elim
   |no=>rw[e]at o0;exact o0
  split at o
  .rename_i c hx e
   split at o
   .rename_i hl;have R0:Reps K [] H vs ds:=by
     have:=r.cut (aaa hc)
     rwa[fz]at this
    refine⟨by rw[r.len];exact hl,[],ds,[],R0,⟨dD,rfl,λi a o e1=>by simp at e1⟩,?_⟩
    rw[e]
    intro U' H' g _
    obtain⟨G,hr'⟩:=hr.stays λa u q=>g.oth a u q (by simp)
    exact hE c H' G hr' (o U H' G hr')
   .exact o.elim
  .exact ok o
 .exact o.elim
end
theorem akx(m:Bool){X:Cx}(G:Dn X.prog X.w X.K X.mg X.base k x ps (a0h X.K n F) f fd)(hr:Room k X.A)(hg:Gl X x)(ha:MA X E (e::es) ka)
  (hdb:(x == ("__debug__" : Str))=false:=by decide) (he:starEach (e::es) X.env=(false,eval e X.env)::starEach es X.env:=by rfl) (hpl:(backTo pos (starEach es X.env)).any (·.1)=false:=by rfl):ME X E (.Call (.Name x p) (e::es) [] pos) (sA (j8 m n F) ka):=by
 refine PE.weak (a7n (a82 G.ok hr hg G.m G.kp G.b .nil aot ha hdb he hpl)) ?_
 rintro σ H Q ⟨U,τ,h,S,Rh,o⟩
 refine⟨U,τ,h,S,Rh,dg o λds h1 U1 H1 vs g1 r1 hr1 o1=>?_⟩;rw[bP];exact a8i r1 hr1 (adi (λc h1=>noex) o1) _
theorem ah6{X:Cx}(G:DnX X.prog X.w X.K X.mg X.base k x ps (spX X.K X.mg n F) f fd)(hr:Room k X.A)(hg:Gl X x)(ha:MA X X0 (e::es) ka)
  (hdb:(x == ("__debug__" : Str))=false:=by decide) (he:starEach (e::es) X.env=(false,eval e X.env)::starEach es X.env:=by rfl) (hpl:(backTo pos (starEach es X.env)).any (·.1)=false:=by rfl):ME X X0 (.Call (.Name x p) (e::es) [] pos) (sA (u5 n F) ka):=by
 have ps0:a7f (CXE X.prog X.w) X E0:=by
  rintro aA σ H s e s' I ⟨a,C,t,B,H',rfl,os,bare,un,hok,air,z⟩
  exact z.elim
 refine PE.weak (a7n (a82 G.ok hr hg G.m G.kp G.b .nil ps0 ha hdb he hpl)) ?_
 rintro σ H Q ⟨U,τ,h,S,Rh,o⟩
 refine⟨U,τ,h,S,Rh,dg o λds h1 U1 H1 vs g1 r1 hr1 o1=>?_⟩;rw[bP];exact a8m r1 hr1 o1 λc H' _ _ z=>z.elim
section
variable{P:Program}{w:World}{K:Fg}{mg:Str->Option Value}{base:Heap}{N:List Str}{qual:Str}{aB:Scope}{fa:Addr}{cd:Value}{A:Around}{outer:List Env}{s0:Shared}{H0:Hp}{E:XK}
theorem aky(G:DnX P w K mg base k x ps (spX K mg n F) f fd)(hr:Room k (cxE P w K mg base N qual aB fa cd A outer s0 H0 E).A)(hg:Gl (cxE P w K mg base N qual aB fa cd A outer s0 H0 E) x)(ha:MA (cxE P w K mg base N qual aB fa cd A outer s0 H0 E) (aaq mg E) (e::es) ka)
  (hdb:(x == ("__debug__" : Str))=false:=by decide) (he:starEach (e::es) (cxE P w K mg base N qual aB fa cd A outer s0 H0 E).env=(false,eval e (cxE P w K mg base N qual aB fa cd A outer s0 H0 E).env)::starEach es (cxE P w K mg base N qual aB fa cd A outer s0 H0 E).env:=by rfl) (hpl:(backTo pos (starEach es (cxE P w K mg base N qual aB fa cd A outer s0 H0 E).env)).any (·.1)=false:=by rfl) :
  ME (cxE P w K mg base N qual aB fa cd A outer s0 H0 E) (aaq mg E) (.Call (.Name x p) (e::es) [] pos) (sA (u5 n F) ka):=by
 refine PE.weak (a7n (a82 (X:=cxE P w K mg base N qual aB fa cd A outer s0 H0 E) G.ok hr hg G.m G.kp G.b .nil (ayo λ_ _ z=>z) ha hdb he hpl)) ?_
 rintro σ H Q ⟨U,τ,h,S,Rh,o⟩
 refine⟨U,τ,h,S,Rh,dg o λds h1 U1 H1 vs g1 r1 hr1 o1=>?_⟩;rw[bP];exact a8m r1 hr1 o1 λc H' _ _ z=>z
noncomputable def a5c(c:Str)(ka:SA):SS:=λτ h=>(ka τ h).fl λds h1=>if ds.length<=LINE then .ex c h1 else .no
theorem a8n(hC:XCls K C)(hg:Gl (cxE P w K mg base N qual aB fa cd A outer s0 H0 E) x)(hm:mg x=some (.ref C))(ha:MA (cxE P w K mg base N qual aB fa cd A outer s0 H0 E) (aaq mg E) (e::es) ka)
  (hdb:(x == ("__debug__" : Str))=false:=by decide) (he:starEach (e::es) (cxE P w K mg base N qual aB fa cd A outer s0 H0 E).env=(false,eval e (cxE P w K mg base N qual aB fa cd A outer s0 H0 E).env)::starEach es (cxE P w K mg base N qual aB fa cd A outer s0 H0 E).env:=by rfl) (hpl:(backTo cpos (starEach es (cxE P w K mg base N qual aB fa cd A outer s0 H0 E).env)).any (·.1)=false:=by rfl) :
  MS (cxE P w K mg base N qual aB fa cd A outer s0 H0 E) (aaq mg E) (.Raise (some (.Call (.Name x np) (e::es) [] cpos)) none pos) (a5c x ka):=by
 refine PS.weak (aks (X:=cxE P w K mg base N qual aB fa cd A outer s0 H0 E) (Ex:=λH=>E (.ref C) none H) hC hg hm rfl ha (λaA σ H s h' a args I mk z=>ayp I mk z) hdb he hpl) ?_
 rintro D σ H ⟨U,τ,h,S,Rh,o⟩
 refine⟨U,τ,h,S,Rh,qe o λds h1 U1 H1 vs g1 r1 hr1 o1=>?_⟩
 split at o1
 .rename_i hl;obtain⟨C',e1,z⟩:=o1 U1 H1 (.refl _ _) hr1;rw[hm]at e1;cases e1
  exact⟨by rw[r1.len];exact a8a hl,z⟩
 .exact o1.elim
end
def noX{α:Type}:R α->R α
 |.ex _ _=>.no
 |r=>r
noncomputable def qA{α:Type}(ka:Sd->Hd->R α):Sd->Hd->R α:=λτ h=>noX (ka τ h)
abbrev MEx(X:Cx)(e:Expr)(f:SE):Prop:=PEx X e λσ H Q E=>lift X.K (aaq X.mg E) (v6 X.K) f σ H Q
abbrev MSx(X:Cx)(st:List Stmt)(f:SS):Prop:=PSx X st λD E σ H=>a4k X.K (aaq X.mg E) f D σ H
section
variable{X:Cx}
theorem aq6(h:PEx X e t):PEx X e (λσ H Q E=>t σ H (λv H1=>∃L,aa1 H1 L/\∀H2,FrzOf L H1 H2->Q v H2) E):=λaA s σ H Q E I q =>
 L2.thn (h aA s σ H _ E I q) λu s' ⟨v,H1,I1,r,L,ab,k⟩=>let ⟨H2,f,I2⟩:=Inv.frz I1 ab; ⟨v,H2,I2,r,k H2 f⟩
theorem a4r(G:DnX X.prog X.w X.K X.mg X.base k x ps (spX X.K X.mg n F) f fd)(hr:Room k X.A)(hg:Gl X x)(ha:MA X.nox X0 (e::es) ka)
  (hdb:(x == ("__debug__" : Str))=false:=by decide) (he:starEach (e::es) X.env=(false,eval e X.env)::starEach es X.env:=by rfl) (hpl:(backTo pos (starEach es X.env)).any (·.1)=false:=by rfl):MEx X (.Call (.Name x p) (e::es) [] pos) (sA (u5 n F) (qA ka)):=by
 intro aA s σ H Q E I ⟨U,τ,h,S,Rh,o⟩
 refine aq6 (akv G.ok hr hg G.m G.kp G.b ha hdb he hpl) aA s σ H Q E I ⟨U,τ,h,S,Rh,?_⟩;have o2:=dg o (P:=λvs H1=>spX X.K X.mg n F vs H1 (λv H1=>∃L,aa1 H1 L/\∀H2,FrzOf L H1 H2->Q v H2) E) λds h1 U1 H1 vs g1 r1 hr1 o1=>a8m r1 hr1 o1 λc H' _ _ z=>z;unfold qA at o2
 cases e1:ka τ h with
 |ok a h1=>rw[e1]at o2;exact o2
 |ex c h1=>rw[e1]at o2;exact o2.elim
 |no=>rw[e1]at o2;exact o2
theorem a7q{pos:Pos}(hN:X.N.Nodup)(hi:X.N[i]? = some x)(hx:Loc X.env.scope x)(he:MEx X e f)(hs:swapsWith e (some (.Name x pos')) pos.line X.env=pure false:=by rfl)(hf:Hf X x:=by with_unfolding_all first|exact .inl rfl|exact .inr rfl):MSx X [.Assign [.Name x pos'] e pos] (jm i f):=λaA s σ H D E I q =>
 aq5 hN hi hx he hs hf aA s σ H D E I (agx q)
theorem akz(hc:MT X.nox X0 c fc)(ha:MSx X a f)(hb:MSx X b g):MSx X [.If c a b pos] (sIf (qA fc) f g):=by
 intro aA s σ H D E I ⟨U,τ,h,S,Rh,o⟩
 refine av0 hc ha hb aA s σ H D E I ⟨U,τ,h,S,Rh,?_⟩;have o2:=qe o (Rp:=ajv) (P:=λk H1=>if k=true then a4k X.K (aaq X.mg E) f D σ H1 else a4k X.K (aaq X.mg E) g D σ H1) λk h1 U1 H1 k' g1 r1 hr1 o1=>by
  subst r1
  cases k' with
  |true=>exact⟨U1,τ,h1,S.mono g1,hr1,o1⟩
  |false=>exact⟨U1,τ,h1,S.mono g1,hr1,o1⟩
 unfold qA at o2
 cases e1:fc τ h with
 |ok a h1=>rw[e1]at o2;exact o2
 |ex c h1=>rw[e1]at o2;exact o2.elim
 |no=>rw[e1]at o2;exact o2
noncomputable def aq7(i:Nat)(cs:Str->Bool)(fb fs:SS):SS:=λτ h=>match fb τ h with
 | .ex c h1=>if cs c=true then (match fs (τ.set i (some (.exc c))) h1 with
   |.nx τ' h'=>.nx (τ'.set i none) h'|.rt d h'=>.rt d h'|.bk τ' h'=>.bk (τ'.set i none) h'|.ct τ' h'=>.ct (τ'.set i none) h'|_=>.no) else .no
 |r=>r
theorem SRep.off(S:SRep K U H σ τ)(i:Nat):SRep K U H (σ.set i none) (τ.set i none):=by
 refine⟨by simp[S.len],λj d e=>?_⟩
 by_cases hj:i=j
 .subst hj;rw[List.getElem?_set]at e;simp at e
 .rw[cH hj]at e ⊢;exact S.val j d e
theorem an9{R:Addr}{x n:Str}{i:Nat}{np hp pos:Pos}{body:List Stmt}{b0:Stmt}{suite:List Stmt}{cs:Str->Bool}{fb fs:SS}(N:Hnd X R x n i)
  (hcs:∀c,cs c=true->∃C,X.mg c=some (.ref C)/\PySem.W.nsIn X.K mainGlobals c=some (some (.ref C))/\PySem.W.exmOne X.K (.ref C) (.ref R)=some true)
  (hb:MSx X body fb) (hs:∀a,MSs (X.inEx a) X0 (b0::suite) fs):MS X X0 (.Try body [.ExceptHandler (some (.Name x np)) (some n) (b0::suite) hp] [] [] pos) (aq7 i cs fb fs):=by
 refine PS.weak (av1 (ts:=a4k X.K X0 fs) N hb hs) λD σ H ⟨U,τ,h,S,Rh,o⟩=>⟨U,τ,h,S,Rh,?_⟩;unfold aq7 at o
 cases e:fb τ h with
 |nx τ' h'=>rw[e]at o;exact o
 |rt d h'=>rw[e]at o;exact o
 |bk τ' h'=>rw[e]at o;exact o
 |ct τ' h'=>rw[e]at o;exact o
 |no=>rw[e]at o;exact o
 |ex c h1 =>
  rw[e]at o;dsimp only at o
  split at o
  .rename_i hc;obtain⟨C,m,ns,ex⟩:=hcs c hc
   intro U' H' g hr
   refine⟨C,m,C,rfl,ex,λa oe hoe ha=>?_⟩;have G:=g.trans (a1i (U:=U') ha (.frz oe (L2.exO a)));refine⟨U',τ.set i (some (.exc c)),h1,(S.mono G).set (.exc (o:=oe) (C:=C) oh hoe ns) i,hr.aside ha _,?_⟩;have o1:=u9 o G
   cases e2:fs (τ.set i (some (.exc c))) h1 with
   |nx τ' h'=>rw[e2]at o1;exact λU2 H2 σ' g2 S2 hr2=>o1 U2 H2 _ g2 (S2.off i) hr2
   |bk τ' h'=>rw[e2]at o1;exact λU2 H2 σ' g2 S2 hr2=>o1 U2 H2 _ g2 (S2.off i) hr2
   |ct τ' h'=>rw[e2]at o1;exact λU2 H2 σ' g2 S2 hr2=>o1 U2 H2 _ g2 (S2.off i) hr2
   |rt d h'=>rw[e2]at o1;exact o1
   |ex c' h'=>rw[e2]at o1;exact o1.elim
   |no=>rw[e2]at o1;exact o1.elim
  .exact o.elim
end
section
variable{X:Cx}
def vc(v:V)(cv:Value):Prop:=(∃C,v=.ref C/\cv=.ref C)\/∃T,v=.ty T/\cv=.type T
theorem vc.eq(h:vc v cv)(r:RelV v u):u=cv:=by
 rcases h with⟨C,rfl,rfl⟩|⟨T,rfl,rfl⟩
 .exact r
 .cases r;rfl
theorem av2(I:L2.Inv X aA σ H s)(e:H a=some (.frz o (exO a)))(c:o.cls=.ref C):ExAt a C s.heap:=⟨o,(show ObjOk X.prog X.w H s.heap a (.frz o (exO a)) from I.hok a _ e).1,c⟩
theorem al0:CallR X (.builtin "isinstance") (λxs H Q=>∃a o C v cv b,xs=[.ref a,v]/\vc v cv/\H a=some (.frz o (exO a))/\o.cls=.ref C/\XKit X.K C/\PySem.W.kitOne X.K (.ref C) cv=some b/\Q (.bl b) H):=by
 intro aA s σ H xs us Q I r h
 obtain⟨a,o,C,v,cv,b,rfl,hv,ea,hc,Z,e,q⟩:=h;obtain⟨u,w',rfl,rx,rt⟩:=vals2 r;obtain rfl:u=Value.ref a:=rx;obtain rfl:=hv.eq rt;exact bS (adh Z) I.kIn (av2 I ea hc) e (λz=>nomatch z) λtk=>⟨.bl b,H,I.tok tk,rfl,q⟩
theorem aab:∀{cs:List Addr} {us:List Value},Vals (cs.map V.ref) us->us=cs.map Value.ref
 |[],_,r=>by cases r;rfl
 |c::cs,us,r=>by
  cases r with
  |cons r rs =>
   rw[b6,<-aab rs]
   congr 1
theorem ah7:CallR X (.builtin "isinstance") (λxs H Q=>∃a o C tp,∃cs:List Addr,∃b,xs=[.ref a,.ref tp]/\H tp=some (.tup (cs.map V.ref))/\H a=some (.frz o (exO a))/\o.cls=.ref C/\XKit X.K C/\PySem.W.kitAny X.K (.ref C) (cs.map Value.ref)=some b/\Q (.bl b) H):=by
 intro aA s σ H xs us Q I r h
 obtain⟨a,o,C,tp,cs,b,rfl,et,ea,hc,Z,e,q⟩:=h;obtain⟨u,w',rfl,rx,rt⟩:=vals2 r;obtain rfl:u=Value.ref a:=rx;obtain rfl:w'=Value.ref tp:=rt;obtain⟨_,its,vr,o',h1,⟨h2,_⟩,h3⟩:=(show ObjOk X.prog X.w H s.heap tp (.tup (cs.map V.ref)) from I.hok tp _ et)
 obtain rfl:=aab vr
 obtain⟨n,h3⟩:=h3;have htp:s.heap.get? tp=some ⟨.type "tuple",o'.dict,.seq (cs.map Value.ref).toArray n,o'.slots⟩:=by
  rw[h1];obtain⟨c,dd,dt,sl⟩:=o';simp only at h2 h3;rw[h2,h3]
 exact PySem.W.kia_tup (adh Z) I.kIn (av2 I ea hc) htp e (λz=>nomatch z) λtk=>⟨.bl b,H,I.tok tk,rfl,q⟩
noncomputable def ah8(i:Nat)(f:Str->Option Bool):SE:=λτ h=>match τ[i]? with
 |some (some (.exc c))=>(match f c with|some b=>.ok (.bl b) h|none=>.no)
 |_=>.no
variable{E:XD}
theorem ana(S:SRep K U H σ τ)(o:out K E (v6 K) U H (ah8 i f τ h) Q) :
  ∃a ob C c b,σ[i]? = some (some (.ref a))/\H a=some (.frz ob (exO a))/\ob.cls=.ref C/\PySem.W.nsIn K mainGlobals c=some (some (.ref C))/\f c=some b/\out K E (v6 K) U H (.ok (.bl b) h) Q:=by
 unfold ah8 at o
 split at o
 .rename_i c e;obtain⟨v,e1,r⟩:=S.val i _ e
  cases r with
  |exc q hc hn =>
   split at o
   .rename_i b hb;exact⟨_,_,_,c,b,e1,q,hc,hn,hb,o⟩
   .exact o.elim
 .exact o.elim
theorem a5d(hg:Gl X "isinstance")(hm:X.mg "isinstance" = none)(hb:bootBuiltins "isinstance" = some (.builtin "isinstance"))(hN:X.N[i]? = some n)(hv:Vis X.env.scope n)(hc:PE X (.Name x px) (tC v))(hvc:vc v cv)
  (hf:∀c b C,f c=some b->PySem.W.nsIn X.K mainGlobals c=some (some (.ref C))->XKit X.K C/\PySem.W.kitOne X.K (.ref C) cv=some b)
  (hd:(n == ("__debug__" : Str))=false:=by decide) (hcd:(n == ("__classdict__" : Str))=false:=by decide):ME X E (.Call (.Name "isinstance" p0) [.Name n pn,.Name x px] [] pos) (ah8 i f):=by
 refine PE.weak (a3g al0 hg hm hb (yj (af7 hN hv hd hcd) (yj hc a4y))) ?_
 rintro σ H Q ⟨U,τ,h,S,Rh,o⟩
 obtain⟨a,ob,C,c,b,e1,q,oc,ns,fb,o1⟩:=ana S o;obtain⟨Z,ki⟩:=hf c b C fb ns;exact⟨_,e1,a,ob,C,v,cv,b,rfl,hvc,q,oc,Z,ki,o1 U H _ (.refl _ _) (.bl b) Rh⟩
theorem ah9{cs:List Addr}(hg:Gl X "isinstance")(hm:X.mg "isinstance" = none)(hb:bootBuiltins "isinstance" = some (.builtin "isinstance"))(hN:X.N[i]? = some n)(hv:Vis X.env.scope n)(hc:PA X es t)(ht:∀σ H (Q:List V->Hp->Prop),Q (cs.map V.ref) H->t σ H Q)(hl:cs.length<=sizeLine)
  (hf:∀c b C,f c=some b->PySem.W.nsIn X.K mainGlobals c=some (some (.ref C))->XKit X.K C/\PySem.W.kitAny X.K (.ref C) (cs.map Value.ref)=some b)
  (hd:(n == ("__debug__" : Str))=false:=by decide) (hcd:(n == ("__classdict__" : Str))=false:=by decide):ME X E (.Call (.Name "isinstance" p0) [.Name n pn,.Tuple es k px] [] pos) (ah8 i f):=by
 refine PE.weak (a3g ah7 hg hm hb (yj (af7 hN hv hd hcd) (yj (amc hc) a4y))) ?_
 rintro σ H Q ⟨U,τ,h,S,Rh,o⟩
 obtain⟨a,ob,C,c,b,e1,q,oc,ns,fb,o1⟩:=ana S o;obtain⟨Z,ki⟩:=hf c b C fb ns;refine⟨_,e1,ht _ _ _ ⟨by rw[aE];exact hl,λp hp=>?_⟩⟩
 have G:=a1i (U:=U) hp (.tup (cs.map V.ref));exact⟨a,ob,C,p,cs,b,rfl,oh,G.frz _ _ _ q,oc,Z,ki,o1 U _ _ G (.bl b) (Rh.aside hp _)⟩
end
end MI
namespace AT
open L2
theorem al1{α:Type}(x0:α)(xs:List α):atI (x0::xs) 0=some x0:=uz (j:=0) rfl
theorem al2{α:Type}(x0 x1:α)(xs:List α):atI (x0::x1::xs) 1=some x1:=uz (j:=1) rfl
theorem al3{α:Type}(x0 x1 x2:α)(xs:List α):atI (x0::x1::x2::xs) 2=some x2:=uz (j:=2) rfl
theorem al4{α:Type}(x0 x1 x2 x3:α)(xs:List α):atI (x0::x1::x2::x3::xs) 3=some x3:=uz (j:=3) rfl
theorem al5{α:Type}(x0 x1 x2 x3 x4:α)(xs:List α):atI (x0::x1::x2::x3::x4::xs) 4=some x4:=uz (j:=4) rfl
theorem al6{α:Type}(x0 x1 x2 x3 x4 x5:α)(xs:List α):atI (x0::x1::x2::x3::x4::x5::xs) 5=some x5:=uz (j:=5) rfl
theorem al7{α:Type}(x0 x1 x2 x3 x4 x5 x6:α)(xs:List α):atI (x0::x1::x2::x3::x4::x5::x6::xs) 6=some x6:=uz (j:=6) rfl
theorem al8{α:Type}(x0 x1 x2 x3 x4 x5 x6 x7:α)(xs:List α):atI (x0::x1::x2::x3::x4::x5::x6::x7::xs) 7=some x7:=uz (j:=7) rfl
theorem x10:ixN 1 0=some 0:=rfl
theorem x20:ixN 2 0=some 0:=rfl
theorem x21:ixN 2 1=some 1:=rfl
theorem x30:ixN 3 0=some 0:=rfl
theorem x31:ixN 3 1=some 1:=rfl
theorem x32:ixN 3 2=some 2:=rfl
theorem x40:ixN 4 0=some 0:=rfl
theorem x41:ixN 4 1=some 1:=rfl
theorem x42:ixN 4 2=some 2:=rfl
theorem x43:ixN 4 3=some 3:=rfl
theorem x50:ixN 5 0=some 0:=rfl
theorem x51:ixN 5 1=some 1:=rfl
theorem x52:ixN 5 2=some 2:=rfl
theorem x53:ixN 5 3=some 3:=rfl
theorem x54:ixN 5 4=some 4:=rfl
theorem x60:ixN 6 0=some 0:=rfl
theorem x61:ixN 6 1=some 1:=rfl
theorem x62:ixN 6 2=some 2:=rfl
theorem x63:ixN 6 3=some 3:=rfl
theorem x64:ixN 6 4=some 4:=rfl
theorem x65:ixN 6 5=some 5:=rfl
theorem x70:ixN 7 0=some 0:=rfl
theorem x71:ixN 7 1=some 1:=rfl
theorem x72:ixN 7 2=some 2:=rfl
theorem x73:ixN 7 3=some 3:=rfl
theorem x74:ixN 7 4=some 4:=rfl
theorem x75:ixN 7 5=some 5:=rfl
theorem x76:ixN 7 6=some 6:=rfl
def b08(x:Int):Int:=if x<0 then -x else x
theorem aha(x:Int)(h:MI.Hd):MI.ax2 [.int x] h=.ok (.int (b08 x)) h:=rfl
theorem p18(h:MI.Hd):MI.a6e (.int 10) (.int 18) h=.ok (.int 1000000000000000000) h:=by rw[MI.a6e,ai (by decide)];rfl
theorem aq8{i:Int}(c:0<=j/\j<=1000000/\i.natAbs<2^64):MI.a6e (.int i) (.int j) h=.ok (.int (i^j.toNat)) h:=by rw[MI.a6e,ai c]
end AT
namespace MI
open L2 SeqAt
noncomputable def ayr(neg:Bool)(K:Fg):R2:=λx y H Q=>∃(U:List Addr) (p q:Addr) (vs us:List V) (xs ys:List D),x=.ref p/\y=.ref q/\Rd H p (.lst vs)/\Rd H q (.lst us)/\Reps K U H vs xs/\Reps K U H us ys/\xs.all (pur 59)=true/\ys.all (pur 59)=true/\Q (.bl (if neg then !aa0 xs ys else aa0 xs ys)) H
theorem adk(I:Inv X aA σ H s)(hu:X.A.units+64<cLine)(h1:Rd H p (.lst vs))(h2:Rd H q (.lst us))(rs:Reps X.K U H vs xs)(qs:Reps X.K U H us ys)(p1:xs.all (pur 59)=true)(p2:ys.all (pur 59)=true) :
  RcAt X.A s (.ref p) (.ref q) (aa0 xs ys)/\RcNeAt X.A s (.ref p) (.ref q) (!aa0 xs ys):=by
 obtain⟨its,r1,pl1,z1⟩:=I.list (.inl h1);obtain⟨its2,r2,pl2,z2⟩:=I.list (.inl h2);have l1:its.toArray.size=xs.length:=by rw[ax,<-r1.length,rs.len]
 have l2:its2.toArray.size=ys.length:=by rw[ax,<-r2.length,qs.len]
 by_cases hl:xs.length=ys.length
 .have step:∀j (h1:j<its.toArray.size) (h2:j<its2.toArray.size),EqAt X.A.in1 s its.toArray[j] its2.toArray[j] (pairE xs ys j):=λj h1 h2=>by
   have j1:j<xs.length:=by omega
   have j2:j<ys.length:=by omega
   obtain⟨v1,e1,q1⟩:=rs.get (a6 j1);obtain⟨v2,e2,q2⟩:=qs.get (a6 j2);obtain⟨u1,e3,q3⟩:=r1.get e1;obtain⟨u2,e4,q4⟩:=r2.get e2;have f1:its.toArray[j]=u1:=by simpa using (ae.mp e3).2
   have f2:its2.toArray[j]=u2:=by simpa using (ae.mp e4).2
   have pe:pairE xs ys j=eqD xs[j] ys[j]:=by simp[pairE,a6 j1,a6 j2]
   rw[f1,f2,pe];rw[aO]at p1 p2;exact an1 I.hok 59 X.A.in1 q1 q2 q3 q4 (p1 _ (bo j1)) (p2 _ (bo j2)) (by rw[eN];omega)
  have c1:=RcAt.lists (A:=X.A) (s:=s) (e:=pairE xs ys) pl1.isList pl2.isList (by omega) (by omega) step
  have c2:=RcNeAt.lists (A:=X.A) (s:=s) (e:=pairE xs ys) pl1.isList pl2.isList (by omega) (by omega) step
  have ea:=a3q xs ys;rw[hl,Nat.min_self,cM,cE,<-hl]at ea;rw[l1,ea]at c1 c2;exact⟨c1,c2⟩
 .have ne:(its.toArray.size != its2.toArray.size)=true:=by rw[l1,l2];simpa using hl
  have ea:=a3q xs ys;rw[bN.mpr hl,cO]at ea;rw[<-ea];exact⟨RcAt.lists_lengths pl1.isList pl2.isList ne (by omega),RcNeAt.lists_lengths pl1.isList pl2.isList ne (by omega)⟩
theorem anb{X:Cx}(hu:X.A.units+64<cLine):OpR X (compareOp .Eq) (ayr false X.K):=by
 intro aA s σ H x y v u Q I rx ry h
 obtain⟨U,p,q,vs,us,xs,ys,rfl,rfl,h1,h2,r1,r2,p1,p2,hq⟩:=h
 cases rx;cases ry
 exact(adk I hu h1 h2 r1 r2 p1 p2).1 X.prog X.w X.xe _ ⟨.bl _,H,I,rfl,hq⟩
theorem av3{X:Cx}(hu:X.A.units+64<cLine):OpR X (compareOp .NotEq) (ayr true X.K):=by
 intro aA s σ H x y v u Q I rx ry h
 obtain⟨U,p,q,vs,us,xs,ys,rfl,rfl,h1,h2,r1,r2,p1,p2,hq⟩:=h
 cases rx;cases ry
 exact(adk I hu h1 h2 r1 r2 p1 p2).2 X.prog X.w X.xe _ ⟨.bl _,H,I,rfl,hq⟩
noncomputable def a8o(neg:Bool)(x y:D)(h:Hd):R D:=match zu x h,zu y h with
 |some xs,some ys=>if xs.all (pur 59)=true/\ys.all (pur 59)=true then .ok (.bl (if neg then !aa0 xs ys else aa0 xs ys)) h else .no
 |_,_=>.no
theorem abo(neg:Bool):a0j K (a8o neg) (ayr neg K):=by
 intro E U H h x y dx dy Q rx ry hr o
 unfold a8o at o
 split at o
 .rename_i xs ys e1 e2
  split at o
  .rename_i hc;obtain⟨a,vs,rfl,h1,r1⟩:=a2h rx hr e1;obtain⟨b,us,rfl,h2,r2⟩:=a2h ry hr e2;exact⟨U,a,b,vs,us,xs,ys,rfl,rfl,h1,h2,r1,r2,hc.1,hc.2,ans o (.bl _) hr⟩
  .exact o.elim
 .exact o.elim
end MI
namespace SETH
noncomputable def it:Nat->Nat->Nat
 |0,x=>x
 |n+1,x=>it n (5*x+1)
theorem ahb(m:Nat):∀(n x:Nat),it (n+m) x=it m (it n x)
 |0,x=>by rw[eK];rfl
 |n+1,x=>by rw[show n+1+m=(n+m)+1 by omega];exact ahb m n _
theorem anc:∀k:Nat,∃c,∀x,it (2^k) x=(4*(2^k*(2*c+1))+1)*x+2^k*(2*c+1)
 |0=>⟨0,λx=>by show 5*x+1=_;omega⟩
 |k+1=>by
  obtain⟨c,h⟩:=anc k;refine⟨2*c*(2^k*(2*c+1))+c+2^k*(2*c+1),λx=>?_⟩;have e:2^(k+1)=2^k+2^k:=by rw[fY];omega
  rw[e,ahb,h,h]
  generalize 2^k=P
  grind
theorem full:∀(k x y:Nat),∃n,n<2^k/\it n x%2^k=y%2^k
 |0,x,y=>⟨0,by decide,by rw[Nat.pow_zero,Nat.mod_one,Nat.mod_one]⟩
 |k+1,x,y=>by
  obtain⟨n,hn,e⟩:=full k x y;obtain⟨c,h⟩:=anc k;have hp:0<2^k:=Nat.pow_pos (by decide)
  rw[fY]
  by_cases q:it n x / 2^k%2=y / 2^k%2
  .exact⟨n,by omega,by rw[gu,gu,e,q]⟩
  .refine⟨n+2^k,by omega,?_⟩
   rw[ahb,h]
   generalize 2^k=P at *
   generalize it n x=z at *
   have:(4*(P*(2*c+1))+1)*z+P*(2*c+1)=(z+P)+P*2*(2*(2*c+1)*z+c):=by grind
   rw[this,Nat.add_mul_mod_self_left,gu,gu,Nat.add_mod_right,e,Nat.add_div_right _ hp]
   congr 2
   omega
noncomputable def im(M:Nat):Nat->Nat->Nat
 |0,x=>x
 |n+1,x=>im M n ((x*5+1)%M)
theorem av4(M:Nat):∀(n x:Nat),im M n x%M=it n x%M
 |0,x=>rfl
 |n+1,x=>by
  show im M n _%M=it n _%M;rw[av4 M n];have:∀n a b,a%M=b%M->it n a%M=it n b%M:=by
   intro n
   induction n with
   |zero=>exact λa b h=>h
   |succ n ih=>exact λa b h=>ih _ _ (by rw[Nat.add_mod,Nat.mul_mod,h,<-Nat.mul_mod,<-Nat.add_mod])
  exact this n _ _ (by rw[Nat.mod_mod,Nat.mul_comm])
theorem av5(hM:0<M):∀(n x:Nat),x<M->im M n x<M
 |0,x,h=>h
 |n+1,x,h=>av5 hM n _ (Nat.mod_lt _ hM)
open PySem.SetTable
noncomputable def ls(mask:Nat):Nat->Nat×Nat->Nat×Nat
 |0,x=>x
 |n+1,x=>ls mask n (leap mask x.1 x.2)
theorem av6(mask m:Nat):∀(n:Nat) (x:Nat×Nat),ls mask (n+m) x=ls mask m (ls mask n x)
 |0,x=>by rw[eK];rfl
 |n+1,x=>by rw[show n+1+m=(n+m)+1 by omega];exact av6 mask m n _
theorem aev(mask:Nat):∀(n:Nat) (x:Nat×Nat),(ls mask n x).2=x.2 / 32^n
 |0,x=>by rw[Nat.pow_zero,Nat.div_one];rfl
 |n+1,x=>by
  show(ls mask n _).2=_;rw[aev mask n,fY,Nat.mul_comm,<-Nat.div_div_eq_div_mul];rfl
theorem ayt(mask:Nat):∀(n:Nat) (x:Nat×Nat),x.1<=mask->(ls mask n x).1<=mask
 |0,x,h=>h
 |n+1,x,h=>ayt mask n _ (Nat.le_of_lt_succ (Nat.mod_lt _ (Nat.succ_pos _)))
theorem ayu(mask:Nat):∀(n i:Nat),ls mask n (i,0)=(im (mask+1) n i,0)
 |0,i=>rfl
 |n+1,i=>by
  show ls mask n (leap mask i 0)=(im (mask+1) n _,0);rw[<-ayu mask n];rfl
end SETH
namespace SETB
open PyProof.Rows
section
variable{prog:Program}{w:World}{E:Value->Shared->Prop}{A:Around}{s:Shared}
noncomputable def aq9(b:Bool):Obj:={cls:=.type "set",dict:=none,data:=.set #[] 0 (.fresh 0 0 b)}
noncomputable def byT(w:World):Bool:=w.params.followText "set-order"
theorem aqa(q:Q (.ref s.heap.objs.size) {s with heap:=s.heap.push (aq9 (!byT w))}):wpAny (model prog w) A (newSet (.type "set")) Q E s:=by
 unfold newSet setsByText;refine ag (ag (wpAny_askSetting (aN ?_)));exact cX q
end
end SETB
namespace L2
open PyProof.Rows SETB
theorem ahc:eval (.SetComp aD gens aB pos) env =
  comprehension (.SetComp aD gens aB pos) aB env (firstIterPos gens pos) (newSet (.type "set")) (firstAsync gens) (firstIter gens env):=rfl
section
variable{X:Cx}
theorem aew(I:Inv X aA σ H s)
  (hf:∀b∈fp,FpOk X aA H b) (hC:s.heap.objs.size<=C) (hacc:s.heap.objs.size<=acc)
  (J:Inv (cxC X N aB cl C fp s H) [] σ' H' s') (hn:H' acc=none) (hob:ObjOk X.prog X.w (upd H' acc ho) h' acc ho) (sb:Heap.SameBut C s'.heap h') :
  Inv X aA σ (upd H' acc ho) {s' with heap:=h' }:=a7i (Y:=cxC X N aB cl C fp s H) I hf hC hacc ⟨rfl,rfl,rfl,rfl,rfl,rfl,rfl⟩ J hn hob sb
theorem FpOk.on(f:FpOk Y aA H b)(hp:Y.pn=[])(hn:H' b=none)(ne:b∉L):FpOk Y (a0i L h) H' b:=by
 obtain⟨_,f1,f2,f3,f4,_⟩:=f;refine⟨hn,f1,f2,f3,f4,λp hq z=>ne ?_⟩;rw[hp]at hq;have:=(a97 (show p∈a0i L h from hq)).1
 rw[<-z];exact this
end
end L2
namespace MI
open L2
def Bz(j:Int):Prop:=0<=j/\j<2^62
instance (j:Int):Decidable (Bz j):=by unfold Bz;exact inferInstance
end MI
namespace DRW
open L2 MI
def yx(aj:SF):SS :=
 (gj (jm 6 (sA (j8 false 2 aj) (aa (sV 0) (aa (sA my (aa (sV 2) aq)) aq))))
 (gj (acy 3 a1m (s2 gIx (sV 2) (sV 6)))
 (jm 2 (s2 gw (a2g (sV 2) oN (oS (sV 6))) (a2g (sV 2) (oS (s2 gw (sV 6) (sI 1))) oN)))))
def a0p(aj:SF):SS :=
 (gj (jm 2 (sV 1))
 (gj (jm 3 (sC (.str "")))
 (gj (jm 4 (sI 1))
 (gj (sIf (sT (s2 hEq (sA (j8 false 2 aj) (aa (sV 0) (aa (sI 2) aq))) (sI 0)))
 (jm 4 (s2 gw (sI 1) (sA (j8 false 2 aj) (aa (sV 0) (aa (sA my (aa (sV 1) aq)) aq)))))
 sNx)
 (gj (a9w (sRg a0l (aa (sV 4) aq)) (kN 5) (yx aj))
 (ju (sV 3)))))))
def qp(b8:SF):SE :=
 (sA (j8 false 1 b8) (aa (sV 0) aq))
def uw(b8:SF):SS :=
 (gj (sIf (sT (s2 hEq (s2 gIx (sV 0) (sI 0)) (sC (.str "one"))))
 (ju (sI 1))
 sNx)
 (gj (sIf (sT (s2 (gIn false) (s2 gIx (sV 0) (sI 0)) (sA jl (aa (sC (.str "row")) (aa (sC (.str "either")) aq)))))
 (ju (sA a76 (aa (sZ (qi (sIt (s2 gIx (sV 0) (sI 1))) t1 (qp b8) [])) aq)))
 sNx)
 (gj (sIf (sT (s2 hEq (s2 gIx (sV 0) (sI 0)) (sC (.str "many"))))
 (ju (sA (j8 false 1 b8) (aa (s2 gIx (sV 0) (sI 1)) aq)))
 sNx)
 (ju (s2 yw (s2 gIx (sV 0) (sI 3)) (sA (j8 false 1 b8) (aa (s2 gIx (sV 0) (sI 1)) aq)))))))
def ue(aj:SF)(lu:SF)(cu:SF)(b8:SF):SS :=
 (sIf (sT (s2 gGt (s2 gIx (sV 4) (sI 0)) (sI 0)))
 (gj (jm 10 (sA (j8 false 5 cu) (aa (sV 0) (aa (sV 1) (aa (s2 a4e (sV 2) (sI 1)) (aa (sV 3) (aa (sV 4) aq)))))))
 (gj (acy 3 a4e (sA (j8 false 1 b8) (aa (sV 10) aq)))
 (a1j (sML aep (sV 8) (aa (sV 10) aq)))))
 sNx)
def xg(aj:SF)(lu:SF)(cu:SF)(b8:SF):SS :=
 (gj (a1n a4e (sV 4) (sI 0) (sI 1))
 (gj (jm 5 (sA (j8 false 2 aj) (aa (sV 0) (aa (sI 9) aq))))
 (gj (sIf (sOr (sT (s2 hEq (sV 2) (sI 1))) (sOr (sT (s2 gLt (s2 gIx (sV 4) (sI 0)) (sI 1))) (sT (s2 hEq (sV 5) (sI 0)))))
 (gj (sIf (sOr (sT (s2 hEq (sV 3) (sI 0))) (sT (s2 hEq (sA (j8 false 2 aj) (aa (sV 0) (aa (sI 8) aq))) (sI 0))))
 (ju (sA jl (aa (sC (.str "row")) (aa (sA jl aq) aq))))
 sNx)
 (ju (sA jl (aa (sC (.str "one")) (aa (sA (j8 false 2 lu) (aa (sV 0) (aa (sV 1) aq))) aq)))))
 sNx)
 (gj (sIf (sT (s2 gLt (sV 5) (sI 3)))
 (ju (sA jl (aa (sC (.str "many")) (aa (sA (j8 false 5 cu) (aa (sV 0) (aa (sV 1) (aa (s2 a4e (sV 2) (sI 1)) (aa (sV 3) (aa (sV 4) aq)))))) aq))))
 sNx)
 (gj (sIf (sT (s2 gLt (sV 5) (sI 5)))
 (gj (jm 6 (sA (j8 false 2 aj) (aa (sV 0) (aa (sI 5) aq))))
 (gj (jm 7 (sA (j8 false 2 aj) (aa (sV 0) (aa (s2 gw (sV 6) (sI 1)) aq))))
 (ju (sA jl (aa (sC (.str "times")) (aa (sA (j8 false 5 cu) (aa (sV 0) (aa (sV 1) (aa (s2 a4e (sV 2) (sI 1)) (aa (s2 a74 (sV 3) (sA a9y (aa (sI 1) (aa (sV 6) aq)))) (aa (sV 4) aq)))))) (aa (sV 7) (aa (sV 6) aq))))))))
 sNx)
 (gj (jm 8 (sA wu aq))
 (gj (a9w (sRg a0l (aa (s2 gIx (sA jl (aa (sI 1) (aa (sI 2) (aa (sI 2) (aa (sI 3) (aa (sI 3) (aa (sI 4) (aa (sI 5) (aa (sI 6) aq))))))))) (sA (j8 false 2 aj) (aa (sV 0) (aa (sI 8) aq)))) aq)) (kN 9) (ue aj lu cu b8))
 (ju (sA jl (aa (s2 gIx (sA jl (aa (sC (.str "row")) (aa (sC (.str "either")) aq))) (s2 a74 (sV 5) (sI 7))) (aa (sA uc (aa (sV 8) aq)) aq)))))))))))
def yz(aj:SF):SE :=
 (s2 gIx (sV 2) (sA (j8 false 2 aj) (aa (sV 1) (aa (sI 26) aq))))
def qw(aj:SF):ST :=
 (sT (s2 (gIn false) (sV 3) (sV 1)))
def za(aj:SF):SS :=
 (gj (acy 6 a1m (sI 1))
 (gj (jm 7 (s2 gIx (sV 2) (s2 a3n (s2 gw (sV 5) (sV 6)) (sI 26))))
 (jm 3 (s2 gw (s2 gw (a2g (sV 3) oN (oS (sV 4))) (sV 7)) (a2g (sV 3) (oS (s2 gw (sV 4) (sI 1))) oN)))))
def xj(aj:SF):SS :=
 (gj (jm 2 (sC (.str "abcdefghijklmnopqrstuvwxyz")))
 (gj (jm 3 (sMS abh (sC (.str "")) (aa (sZ (qi (sRg a0l (aa (s2 gw (sI 1) (sA (j8 false 2 aj) (aa (sV 0) (aa (sI 8) aq)))) aq)) t1 (yz aj) [0,2])) aq)))
 (gj (sIf (zj (sT (s2 (a8o true) (sV 1) (sZ (sA wu aq)))) (sT (s2 hEq (sA (j8 false 2 aj) (aa (sV 0) (aa (sI 2) aq))) (sI 0))))
 (jm 3 (s2 gIx (sV 1) (s1 agh (sI 1))))
 sNx)
 (gj (jm 4 (sA (j8 false 2 aj) (aa (sV 0) (aa (sA my (aa (sV 3) aq)) aq))))
 (gj (jm 5 (sMS ad4 (sV 2) (aa (s2 gIx (sV 3) (sV 4)) aq)))
 (gj (jm 6 (sI 0))
 (gj (sWh (qw aj) (za aj) 100000)
 (ju (sV 3)))))))))
def vh(aj:SF)(iw:SF)(cu:SF)(b8:SF):SS :=
 (gj (jm 6 (s2 gw (sI 2) (sA (j8 false 2 aj) (aa (sV 0) (aa (sI 4) aq)))))
 (gj (jm 7 (sA (j8 false 5 cu) (aa (sV 0) (aa (sV 1) (aa (sV 6) (aa (sV 2) (aa (sA wu (aa (sI 24) aq)) aq)))))))
 (gj (jm 8 (sA (j8 false 2 iw) (aa (sV 0) (aa (sV 3) aq))))
 (gj (acy 2 a4e (sA (j8 false 1 b8) (aa (sV 7) aq)))
 (gj (a1j (sML aep (sV 3) (aa (sV 8) aq)))
 (a1j (sML aep (sV 4) (aa (sA jl (aa (sV 8) (aa (sV 7) aq))) aq))))))))
def a0q(aj:SF)(iw:SF)(cu:SF)(b8:SF):SS :=
 (gj (jm 3 (sA wu aq))
 (gj (jm 4 (sA wu aq))
 (gj (a9w (sRg a0l (aa (s2 gIx (sA jl (aa (sI 0) (aa (sI 1) (aa (sI 1) (aa (sI 2) (aa (sI 2) (aa (sI 3) (aa (sI 4) (aa (sI 6) aq))))))))) (sA (j8 false 2 aj) (aa (sV 0) (aa (sI 8) aq)))) aq)) (kN 5) (vh aj iw cu b8))
 (ju (sA jl (aa (sV 1) (aa (sA uc (aa (sV 4) aq)) aq)))))))
end DRW
namespace HND
open L2 MI
def xf:SS :=
 (gj (jm 0 (sC (.str " !\"#$&'()*+,-./0123456789:;<=>?@ABCDEFGHIJKLMNOPQRSTUVWXYZ[\\]^_`")))
 (ju (s2 gw (sV 0) (sC (.str "abcdefghijklmnopqrstuvwxyz{|}~\n")))))
end HND
namespace K20
open L2 MI
def zx:SS :=
 (ju (zp (sA kh (aa (sV 0) (aa (sC (.ty "int")) aq))) (a9u (sA kh (aa (sV 0) (aa (sC (.ty "bool")) aq))))))
def p7(m5:SF):SS :=
 (ju (zp (sA (j8 false 1 m5) (aa (sV 0) aq)) (sCh gLe gLe (sV 1) (sV 0) (sV 2))))
def a3s:SS :=
 (ju (zp (sA kh (aa (sV 0) (aa (sC (.ty "tuple")) aq))) (sCh gLe gLe (sV 1) (sA my (aa (sV 0) aq)) (sV 2))))
def a1p:SS :=
 (gj (sIf (sOr (yh (xu (sA kh (aa (sV 0) (aa (sC (.ty "str")) aq))))) (sT (s2 hNe (sA my (aa (sV 0) aq)) (sI 1))))
 an6
 sNx)
 (gj (sIf (sT (s2 hEq (sV 0) (sC (.str "\n"))))
 (ju (sC (.bl true)))
 sNx)
 (ju (zp (sCh gLe gLe (sC (.str " ")) (sV 0) (sC (.str "~"))) (s2 hNe (sA aub (aa (sV 0) aq)) (sI 37))))))
def u6(ul:SF):SE :=
 (sA (j8 false 1 ul) (aa (sV 0) aq))
def n6(ul:SF):SS :=
 (gj (sIf (sOr (yh (xu (sA kh (aa (sV 0) (aa (sC (.ty "str")) aq))))) (yh (sT (sCh gLe gLe (sI 1) (sA my (aa (sV 0) aq)) (sI 6)))))
 (ju (sC (.bl false)))
 sNx)
 (ju (zp (s2 hEq (s1 a2u (sV 0)) (sA my (aa (sV 0) aq))) (sA aiz (aa (sZ (qi (sIt (sV 0)) t1 (u6 ul) [])) aq)))))
end K20
namespace MI
open L2 PyProof.Rows
noncomputable def ahd(r r' r'':R2)(ta tb tc td:TE):TE:=λσ H Q=>ta σ H λx H1=>tb σ H1 λy H2=>r x y H2 λz H3=>∃k,z=.bl k /\
 (if k=true then tc σ H3 λu H4=>r' y u H4 λz' H5=>∃k',z'=.bl k'/\(if k'=true then td σ H5 λv H6=>r'' u v H6 Q else Q (.bl false) H5) else Q (.bl false) H3)
section
variable{X:Cx}{E:XD}{a b c d:Expr}{op op' op'':CmpOp}{r r' r'':R2}{ta tb tc td:TE}{fa fb fc fd:SE}{g g' g'':D->D->Hd->R D}{pos:Pos}{K:Fg}{σ:L2.St}{H:Hp}
theorem ahe(ho:OpR X (compareOp op) r)(ho':OpR X (compareOp op') r')(ho'':OpR X (compareOp op'') r'')(ha:PE X a ta)(hb:PE X b tb)(hc:PE X c tc)(hd:PE X d td)
  (hm:lastMarks [op,op',op''] [b,c,d]=false:=by with_unfolding_all rfl):PT X (.Compare a [op,op',op''] [b,c,d] pos) (ajc (ahd r r' r'' ta tb tc td)):=by
 intro aA s σ H Q I h
 refine isTrue_chain (L2.thn (ha aA s σ H _ I h) λv s1 ⟨x,H1,I1,r1,q1⟩=>test_link (L2.thn (hb aA s1 σ H1 _ I1 q1) λu s2 ⟨y,H2,I2,r2,q2⟩ =>
  L2.thn (ho aA s2 σ H2 x y v u _ I2 r1 r2 q2) λd s3 ⟨z,H3,I3,r3,k,e,q3⟩=>?_)) hm
 subst e;cases r3
 refine bU ?_
 cases k with
 |false =>
  obtain⟨k',e',q'⟩:=q3
  cases e'
  exact ite_ff ⟨H3,I3,q'⟩
 |true =>
  refine ite_tt (test_link (L2.thn (hc aA s3 σ H3 _ I3 q3) λw' s4 ⟨z',H4,I4,r4,q4⟩=>L2.thn (ho' aA s4 σ H4 y z' u w' _ I4 r2 r4 q4) λd' s5 ⟨z2,H5,I5,r5,k2,e2,q5⟩=>?_));subst e2;cases r5
  refine bU ?_
  cases k2 with
  |false =>
   obtain⟨k',e',q'⟩:=q5
   cases e'
   exact ite_ff ⟨H5,I5,q'⟩
  |true =>
   refine ite_tt (test_last (L2.thn (hd aA s5 σ H5 _ I5 q5) λw2 s6 ⟨z3,H6,I6,r6,q6⟩=>L2.thn (ho'' aA s6 σ H6 z' z3 w' w2 _ I6 r4 r6 q6) λd2 s7 ⟨z4,H7,I7,r7,k3,e3,q7⟩=>?_));subst e3;cases r7
   exact bU ⟨H7,I7,q7⟩
noncomputable def aqb(g g' g'':D->D->Hd->R D)(fa fb fc fd:SE):SE:=λτ h=>(fa τ h).bind λx h1=>(fb τ h1).bind λy h2=>(g x y h2).bind λz h3=>match z with
 |.bl true=>(fc τ h3).bind λw h4=>(g' y w h4).bind λz' h5=>match z' with
  |.bl true=>(fd τ h5).bind λv h6=>g'' w v h6
  |.bl false=>.ok (.bl false) h5
  |_=>.no
 |.bl false=>.ok (.bl false) h3
 |_=>.no
theorem av7{Q:VK}(hs:a0j K g r)(hs':a0j K g' r')(hs'':a0j K g'' r'')(q:lift K E (v6 K) (aqb g g' g'' fa fb fc fd) σ H Q) :
  ahd r r' r'' (lift K E (v6 K) fa) (lift K E (v6 K) fb) (lift K E (v6 K) fc) (lift K E (v6 K) fd) σ H Q:=by
 obtain⟨U,τ,h,S,Rh,o⟩:=q;refine⟨U,τ,h,S,Rh,dg o λd h1 U1 H1 v g1 r1 hr1 o1=>?_⟩;refine⟨U1,τ,h1,S.mono g1,hr1,dg o1 λd2 h2 U2 H2 u g2 r2 hr2 o2=>?_⟩;refine hs E U2 H2 h2 v u d d2 _ (r1.mono g2) r2 hr2 (dg o2 λd3 h3 U3 H3 z g3 r3 hr3 o3=>?_)
 cases r3 with
 |bl k =>
  refine⟨k,rfl,?_⟩
  cases k with
  |true =>
   rw[ai rfl];refine⟨U3,τ,h3,((S.mono g1).mono g2).mono g3,hr3,dg o3 λd4 h4 U4 H4 w g4 r4 hr4 o4=>?_⟩;refine hs' E U4 H4 h4 u w d2 d4 _ ((r2.mono g3).mono g4) r4 hr4 (dg o4 λd5 h5 U5 H5 z' g5 r5 hr5 o5=>?_)
   cases r5 with
   |bl k' =>
    refine⟨k',rfl,?_⟩
    cases k' with
    |true =>
     rw[ai rfl];refine⟨U5,τ,h5,((((S.mono g1).mono g2).mono g3).mono g4).mono g5,hr5,dg o5 λd6 h6 U6 H6 x g6 r6 hr6 o6=>?_⟩;exact hs'' E U6 H6 h6 w x d4 d6 Q ((r4.mono g5).mono g6) r6 hr6 o6
    |false =>
     rw[aL aT];exact o5 U5 H5 (.bl false) (.refl _ _) (.bl false) hr5
   |_=>exact o5.elim
  |false =>
   rw[aL aT];exact o3 U3 H3 (.bl false) (.refl _ _) (.bl false) hr3
 |_=>exact o3.elim
theorem ahf(ho:OpR X (compareOp op) r)(ho':OpR X (compareOp op') r')(ho'':OpR X (compareOp op'') r'')(hs:a0j X.K g r)(hs':a0j X.K g' r')(hs'':a0j X.K g'' r'')(ha:ME X E a fa)(hb:ME X E b fb)(hc:ME X E c fc)(hd:ME X E d fd)
  (hm:lastMarks [op,op',op''] [b,c,d]=false:=by with_unfolding_all rfl):MT X E (.Compare a [op,op',op''] [b,c,d] pos) (sT (aqb g g' g'' fa fb fc fd)) :=
 PT.weak (ahe ho ho' ho'' ha hb hc hd hm) λσ H Q q=>aba (λ_ _ _=>av7 hs hs' hs'') q
end
end MI
namespace L2
open PyProof.Rows SETB
noncomputable def stepT(ns:List Str)(k:Str):List Str:=if k∈ns then ns else ns++[k]
def SetTx(P:Program)(w:World)(a:Addr)(ns:List Str)(h:Heap):Prop:=h.SetOf (strKind P w) a (λk=>decide (k∈ns)) ns.length
noncomputable def abp(P:Program)(w:World)(a:Addr)(ns:List Str):HO:=.ext λh=>SetTx P w a ns h
theorem SetTx.keep{P:Program}{w:World}{a:Addr}{ns:List Str}{h h':Heap}(x:SetTx P w a ns h)(k:∀o,h.get? a=some o->h'.get? a=some o):SetTx P w a ns h':=by
 obtain⟨o,es,ep,t,ho,r⟩:=x;exact⟨o,es,ep,t,k o ho,r⟩
theorem SetTx.add{P:Program}{w:World}{a:Addr}{ns:List Str}{k:Str}{h:Heap}(x:h.SetOf (strKind P w) a (λk'=>decide (k'∈ns) || decide (k'=k)) (if decide (k∈ns) then ns.length else ns.length+1)):SetTx P w a (stepT ns k) h:=by
 unfold SetTx stepT
 by_cases m:k∈ns
 .rw[ai m];have e:(λk'=>decide (k'∈ns) || decide (k'=k))=λk'=>decide (k'∈ns):=by
   funext k'
   by_cases z:k'=k
   .subst z;simp[m]
   .simp[z]
  rw[e,ai (aw m)]at x;exact x
 .rw[aL m];have e:(λk'=>decide (k'∈ns) || decide (k'=k))=λk'=>decide (k'∈ns++[k]):=by
   funext k'
   simp[bG]
  rw[e,aL (by simpa using m)]at x
  rw[a9,ay];exact x
theorem al9{P:Program}{w:World}{a:Addr}{ns:List Str}{H:Hp}{h:Heap}(x:SetTx P w a ns h):ObjOk P w H h a (abp P w a ns):=by
 refine⟨x,?_,λh1 h2 p k=>p.keep k⟩;obtain⟨o,_,_,_,ho,_⟩:=x;exact⟨o,ho⟩
theorem ayv{P:Program}{w:World}{a:Addr}{b:Bool}{h:Heap}(e:h.get? a=some (aq9 b)):SetTx P w a [] h :=
 ⟨_, #[],0,_,e,⟨rfl,rfl,rfl⟩,rfl,λe he=>by simp at he,λk=>by simp,by decide,by simp[SetTable.fits,SetTable.fresh,SetTable.fill],rfl⟩
section
variable{prog:Program}{w:World}{A:Around}{R:Result->Shared->Prop}{s:Shared}{aD t0 i0:Expr}{aB:Scope}{pos:Pos}{it acc:Value}{env:Env}
theorem ahg(J:Nat->Shared->Prop)
  (step:∀m z,J m z->wpAny (model prog w) A (pyNext it) (λgot z1=>match got with
   |none=>R (.ok .next) z1
   |some v=>wpAny (model prog w) A (letOwnedTupleGo t0 it v) (λ_ z2=>wpAny (model prog w) A (assign t0 env v) (λ_ z3=>wpAny (model prog w) A (eval aD env) (λx z4 =>
     wpAny (model prog w) A (call (.builtin "set.add") [acc,x]) (λ_ z5=>∃m',m'<m/\J m' z5) (λ_ _=>False) z4)
     (λ_ _=>False) z3) (λ_ _=>False) z2) (λ_ _=>False) z1) (λ_ _=>False) z)
  (m:Nat) (j0:J m s):codeAny (model prog w) A (.compLoop (.SetComp aD [⟨t0,i0,[],0⟩] aB pos) 0 it acc env) R s:=by
 refine codeAny_loop rfl J (λm z hj=>(wpAny_noted ?_:wpAny _ _ ((compTurn (.SetComp aD [⟨t0,i0,[],0⟩] aB pos) 0 it acc env).onRaise _) _ _ z)) m j0;show wpAny (model prog w) _ (standAt i0.pos>>=λ_=>pyNext it>>=_) _ _ z
 apply ag
 apply de
 apply ag
 refine bO (step m z hj) (λgot z1 h1=>?_) λ_ _ no=>no.elim
 match got,h1 with
 |none,h1=>exact aN h1
 |some v,h1 =>
  apply ag
  refine bO h1 (λ_ z2 h2=>?_) λ_ _ no=>no.elim
  apply ag
  refine bO h2 (λ_ z3 h3=>?_) λ_ _ no=>no.elim;show wpAny (model prog w) _ ((eval aD env>>=λx=>standAt aD.pos>>=λ_=>call (.builtin "set.add") [acc,x]>>=λ_=>pure ())>>=_) _ _ _
  apply ag
  apply ag
  refine bO h3 (λx z4 h4=>?_) λ_ _ no=>no.elim
  apply ag
  apply de
  apply ag
  exact bO h4 (λ_ z5 h5=>aN (aN ⟨rfl,h5⟩)) λ_ _ no=>no.elim
theorem aex(h0:codeAny (model prog w) A (.compLoop (.SetComp aD [⟨t0,i0,[],0⟩] aB pos) 0 it acc env) R s)
  (h:wpAny (model prog w) A (pyIter it) (λit' s'=>codeAny (model prog w) A (.compLoop (.SetComp aD [⟨t0,i0,[],0⟩] aB pos) 0 it' acc env) R s') (λ_ _=>False) s) :
  codeAny (model prog w) A (.compStart (.SetComp aD [⟨t0,i0,[],0⟩] aB pos) 0 it acc env) R s:=by
 apply codeAny_of_tree
 show wpAny (model prog w) _ ((compStart (.SetComp aD [⟨t0,i0,[],0⟩] aB pos) 0 it acc env).onRaise _) _ _ s
 apply wpAny_onRaise
 unfold compStart;show wpAny (model prog w) _ (ask>>=_) _ _ s
 apply ag
 apply wpAny_askSetting
 refine wpAny_ite ?_
 split
 .first
  |exact aN ⟨rfl,h0⟩
  |exact ag (aN (aN ⟨rfl,h0⟩))
 .apply ag
  apply wpAny_rule
  show wpAny (model prog w) _ (standAt i0.pos>>=_) _ _ s
  apply ag
  apply de
  apply ag
  exact bO h (λit' s' h'=>aN ⟨rfl,h'⟩) λ_ _ no=>no.elim
end
section
variable{X:Cx}
def av8(P:Program)(w:World)(s0:St)(g0:TG)(te:TE)(Q:VK)(J0:It)(H1:Hp):Prop :=
 ∃W:Nat->Nat->List Str->Hp->Prop,(∃m,W 0 m [] H1)/\∀i m ks H,W i m ks H->
  (J0.stop i H/\∀p,H p=none->Q (.ref p) (upd H p (abp P w p ks))) \/
  (J0.go i H/\∀x H',J0.yld i H x H'->g0 x s0 H' λσ2 H2=>Ext s0 σ2/\te σ2 H2 λz H5=>∃k,z=.str k/\ks.length+1<scanBound/\∃m',m'<m/\W (i+1) m' (stepT ks k) H5)
noncomputable def ayw(P:Program)(w:World)(wi0:TI)(s0:St->St)(g0:TG)(te:TE):TE:=λσ H Q=>wi0 σ H λJ0 H1=>av8 P w (s0 σ) g0 te Q J0 H1
theorem ahh{Y:Cx}{ac it:Addr}{fp:List Addr}{tn:Nat->Heap->Prop}{J0:It}{σ0:St}{H2:Hp}{s4:Shared}{W:Nat->Nat->List Str->Hp->Prop}{Q:VK}{R:Result->Shared->Prop}{t0 i0 aD:Expr}{aB:Scope}{pos:Pos}{g0:TG}{te:TE}{m0:Nat}(Yc:Y.calm=true)(no:∀v s,Y.xe v s->False)(Yn:Y.pn=[])
  (T:Turn Y.prog Y.w Y.K t0 J0 fp it tn)
  (stat:∀{H':Hp},(∀b∈fp,H' b=none)->∀b∈fp,FpOk Y [] H' b) (statA:∀{H':Hp},H' ac=none->FpOk Y [] H' ac) (accF:ac∉fp) (YG0:PG Y t0 g0) (YE:PE Y aD te)
  (turn:∀i m ks H,W i m ks H->(J0.stop i H/\∀p,H p=none->Q (.ref p) (upd H p (abp Y.prog Y.w p ks))) \/
   (J0.go i H/\∀x H',J0.yld i H x H'->g0 x σ0 H' λσ2 H2=>Ext σ0 σ2/\te σ2 H2 λz H5=>∃k,z=.str k/\ks.length+1<scanBound/\∃m',m'<m/\W (i+1) m' (stepT ks k) H5))
  (w0:W 0 m0 [] H2) (K0:Inv Y [] σ0 H2 s4) (st4:tn 0 s4.heap) (f0:∀b∈fp,H2 b=none) (fa:H2 ac=none) (hacc:SetTx Y.prog Y.w ac [] s4.heap)
  (fin:∀s6 H6 ks,Inv Y [] σ0 H6 s6->H6 ac=none->SetTx Y.prog Y.w ac ks s6.heap->(∀p,H6 p=none->Q (.ref p) (upd H6 p (abp Y.prog Y.w p ks)))->R (.ok .next) s6) :
  codeAny (model Y.prog Y.w) Y.A (.compLoop (.SetComp aD [⟨t0,i0,[],0⟩] aB pos) 0 (.ref it) (.ref ac) Y.env) R s4:=by
 refine ahg (λn s'=>∃i σ' H' ks,Inv Y [] σ' H' s'/\Ext (σ0) σ'/\tn i s'.heap/\(∀b∈fp,H' b=none)/\H' ac=none /\
  SetTx Y.prog Y.w ac ks s'.heap/\W i n ks H') ?_ m0
  ⟨0,_,H2,[],K0,⟨rfl,λ_ _ z=>z⟩,st4,f0,fa,hacc,w0⟩
 rintro n s5 ⟨i,σ5,H5,ks,I5,x5,st5,fr5,fa5,ac5,w5⟩
 have I5':Inv Y [] (σ0) H5 s5:=I5.weak x5.1.symm x5.2;have hao:∃o,s5.heap.get? ac=some o/\∀v,o.data≠.cell v:=by
  obtain⟨o,es,ep,t,ho,_,hd,_⟩:=ac5;exact⟨o,ho,λv z=>by rw[hd]at z;cases z⟩
 have I5p:Inv Y (a0i [ac] s5.heap) (σ0) H5 s5:=Inv.pinned (aA:=[]) (fp:=[ac]) I5' (λb hb=>by rw[aI.mp hb];exact statA fa5) (λb hb=>by rw[aI.mp hb];exact hao)
 have F5:∀b∈fp,FpOk Y (a0i [ac] s5.heap) H5 b:=λb hb=>(stat fr5 b hb).on Yn (fr5 b hb) (λz=>accF (by rw[aI.mp z]at hb;exact hb))
 obtain⟨ao,hao1,hao2⟩:=hao;have pa:(ac,ao)∈a0i [ac] s5.heap:=zg (by simp) hao1
 rcases turn i n ks H5 w5 with⟨stop,qn⟩|⟨go,step⟩
 .refine thn (T.done Y rfl rfl rfl Yc i _ s5 _ H5 _ I5p F5 st5 stop) ?_
  rintro r s6 ⟨hr,I6⟩
  subst hr;have e6:=(I6.pin (ac,ao) (br _ pa)).1;have S6:SetTx Y.prog Y.w ac ks s6.heap:=ac5.keep λo ho=>by rw[hao1]at ho;cases ho;exact e6
  exact fin s6 H5 ks I6.unpinned' fa5 S6 qn
 .refine thn (T.item Y rfl rfl rfl Yc i _ s5 _ H5 _ I5p F5 st5 go) ?_
  rintro r s6 ⟨u,hr,h6⟩
  subst hr;refine thn h6 ?_
  rintro _ s7 ⟨x,H7,I7,r7,y7,st7,fr7⟩
  have fa7:H7 ac=none:=(I7.pin (ac,ao) (br _ pa)).2.1;have ac7:=(I7.pin (ac,ao) (br _ pa)).1;have S7:SetTx Y.prog Y.w ac ks s7.heap:=ac5.keep λo ho=>by rw[hao1]at ho;cases ho;exact ac7
  have obj7:∀b∈ac::fp,∃o,s7.heap.get? b=some o/\∀v,o.data≠.cell v:=λb hb=>by
   rcases aV.mp hb with e|e
   .subst e;exact⟨_,ac7,hao2⟩
   .exact T.obj _ _ st7 b e
  have I7':Inv Y (a0i (ac::fp) s7.heap) (σ0) H7 s7:=by
   refine Inv.pinned (aA:=[]) (fp:=ac::fp) I7.unpinned' (λb hb=>?_) obj7
   rcases aV.mp hb with e|e
   .subst e;exact statA fa7
   .exact stat fr7 b e
  refine bO (YG0 _ s7 _ H7 x u _ I7' r7 (step x H7 y7)) (λ_ s8 ⟨σ8,H8,I8,x8,q8⟩=>?_) no;refine bO (YE _ s8 _ H8 _ I8 q8) (λyv s9 ⟨z,H9,I9,rz,k,ez,few,m',hm',w9⟩=>?_) no;subst ez;obtain⟨tk,rfl⟩:=rz;have pin9:∀b∈ac::fp,∀o,s7.heap.get? b=some o->s9.heap.get? b=some o/\H9 b=none:=λb hb o e=>by
   obtain⟨z1,z2,_⟩:=I9.pin (b,o) (br _ (zg hb e));exact⟨z1,z2⟩
  have S9:SetTx Y.prog Y.w ac ks s9.heap:=S7.keep λo ho=>(pin9 ac (by simp) o ho).1
  have fa9:H9 ac=none:=(pin9 ac (by simp) _ ac7).2
  refine call_set_add (knd:=strKind Y.prog Y.w) (k:=k) (strKind_is _ _ _ _) rfl S9 few λh' sb x'=>?_;have qo:∀b o,b≠ac->s9.heap.get? b=some o->h'.get? b=some o:=λb o hb e=>sb.extBut b o hb e;obtain⟨a0,a1,a2,a3,a4,a5'⟩:=statA fa9;have nac:∀b∈fp,b≠ac:=λb hb z=>accF (z ▸ hb);refine⟨m',hm',i+1,σ8,H9,_,(I9.unpinned').turned (t':=s9.toks+1) qo a0 a1 a3 a4 a5',x8,?_,?_,fa9,SetTx.add x',w9⟩
  .exact T.keep _ _ _ st7 λb hb o e=>qo b o (nac b hb) (pin9 b (aP _ hb) o e).1
  .intro b hb
   obtain⟨o,e,_⟩:=T.obj _ _ st7 b hb;exact(pin9 b (aP _ hb) o e).2
theorem ala{pos:Pos}{aD t0 i0:Expr}{aB:Scope}{cl:List (Str×Addr)}{ts fr:List Str}{ix:List Nat}{wi0:TI}{g0:TG}{te:TE}(hc:X.calm=true)(S:CSc X aB cl ts fr ix)(hi0:PI X t0 i0 wi0)
  (hg0:∀C fp s H,PG (cxC X (ts++fr) aB cl C fp s H) t0 g0) (he:∀C fp s H,PE (cxC X (ts++fr) aB cl C fp s H) aD te)
  (hs0:∀x,foldedSetIterable i0 X.env x=pure x:=by intro _;rfl) :
  PE X (.SetComp aD [⟨t0,i0,[],0⟩] aB pos) (ayw X.prog X.w wi0 (yc ts.length ix) g0 te):=by
 intro aA s σ H Q I h
 rw[ahc];refine wpAny_comprehension_free (use:=none) rfl hs0 S.clos S.kind S.names (thn (hi0 aA s σ H _ I h) λv s1 h1=>thn h1 λitv s2 h2=>?_);obtain⟨it,fp,tn,J,H2,e,I2,T,st2,f2,W,⟨m0,w0⟩,turn⟩:=h2;subst e;have hob:∀b∈fp,b<s2.heap.objs.size:=λb hb=>let ⟨o,e,_⟩:=T.obj _ _ st2 b hb;aS e;refine aqa (afy S.own S.push S.kind λh4 hns4 hc4 hsb4=>?_);dsimp only at hns4 hc4 hsb4 ⊢
 generalize hH2:s2.heap.push (aq9 (!byT X.w))=G at hns4 hc4 hsb4 ⊢
 have hCs:G.objs.size=s2.heap.objs.size+1:=by rw[<-hH2,eE]
 have hCle:s2.heap.objs.size<=G.objs.size:=by omega
 have hne:G.objs.size≠s2.heap.objs.size:=by omega
 have old:∀b o,s2.heap.get? b=some o->h4.get? b=some o:=λb o e=>by
  have hlt:=aS e;exact hsb4 b o ((hH2 ▸ aJ _ e))
 have hacc:SetTx X.prog X.w s2.heap.objs.size [] h4 :=
  ayv (hsb4 _ _ (hH2 ▸ bb _ rfl))
 have K0:Inv (cxC X (ts++fr) aB cl G.objs.size fp s2 H2) [] (yc ts.length ix σ) H2 {s2 with heap:=h4} :=
  ag1 S I2 f2 hob hCle old hns4 hc4 rfl rfl
 have st4:tn 0 h4:=T.keep _ _ _ st2 λb _ o e=>old b o e;have accF:s2.heap.objs.size∉fp:=λz=>cG _ (hob _ z);have stat:∀{H':Hp},(∀b∈fp,H' b=none)->∀b∈fp,FpOk (cxC X (ts++fr) aB cl G.objs.size fp s2 H2) [] H' b:=λhn b hb =>
  at7 (a9o S I2 f2 hob hCle) rfl (hn b hb) hb
 have statA:∀{H':Hp},H' s2.heap.objs.size=none->FpOk (cxC X (ts++fr) aB cl G.objs.size fp s2 H2) [] H' s2.heap.objs.size:=λhn =>
  amk (a9o S I2 f2 hob hCle) rfl hn rfl (dW hne) λx c e=>ag2 I2 (S.sub x c e)
 have loop:codeAny (model X.prog X.w) X.A (.compLoop (.SetComp aD [⟨t0,i0,[],0⟩] aB pos) 0 (.ref it) (.ref s2.heap.objs.size) (compEnvC aB cl G.objs.size X.env))
   (compPost (model X.prog X.w) X.A X.xe none (EP X aA σ Q) (.ref s2.heap.objs.size) G.objs.size) {s2 with heap:=h4} :=
  ahh (Y:=cxC X (ts++fr) aB cl G.objs.size fp s2 H2) hc (λ_ _ h=>h) rfl T stat statA accF (hg0 _ _ _ _) (he _ _ _ _) turn w0 K0 st4 (λb hb=>(f2 b hb).1) (I2.hok.fresh (a8 _)) hacc λs6 H6 ks I6 fa S6 qn=>by
   obtain⟨m6,hn6,_⟩:=I6.loc;refine a89 (X:=X) s2.heap.objs.size G.objs.size s6 (upd H6 s2.heap.objs.size (abp X.prog X.w s2.heap.objs.size ks)) m6 hn6 (I2.fpOk hCle (by rw[jk hne];exact I6.free)) (λh' sb=>?_) (qn _ fa)
   exact aew I2 f2 hCle (a8 _) I6 fa (al9 (S6.keep λo ho=>sb.extBut _ _ (dW hne) ho)) sb
 exact aex loop (T.self _ 0 _ _ _ st4 loop)
theorem ahi(hc:X.calm=true):CallR X (.builtin "len") (λxs H Q=>∃(p:Addr) (ns:List Str),xs=[.ref p]/\H p=some (abp X.prog X.w p ns)/\Q (.int ns.length) H):=by
 intro aA s σ H xs us Q I r ⟨p,ns,e,hp,q⟩
 subst e;obtain⟨u,rfl,ru⟩:=vals1 r;cases ru
 obtain⟨hS,_⟩:=I.hok p _ hp;obtain⟨o,es,ep,t,ho,hex,hd,_,_,hb,hf,hn⟩:=hS;refine PySem.call_len_set ho hex hd hf (by unfold scanBound at hb;omega) ⟨.int ns.length,H,I.tok _,⟨_,by rw[hn]⟩,q⟩
end
end L2
namespace MI
open L2
open Classical in
def alb(ck:Hd->Prop)(f:D->Hd->R D):List D->List Str->Hd->R (List Str)
 |[],ns,h=>if ck h then .ok ns h else .no
 |x::xs,ns,h=>if ck h then (f x h).bind λy h1=>(match y with|.str k=>if ns.length<63 then alb ck f xs (stepT ns k) h1 else .no|_=>.no) else .no
noncomputable def alc(ns:List Str)(h:Hd):R D:=.ok (.int (ns.length:Nat)) h
def ald(fi:SI)(t:D->Option Sd)(fe:SE)(ix:List Nat):SE:=λτ h=>(fi τ h).bind λit h1=>(alb it.ck (a2n t fe (frs' ix τ)) it.xs [] h1).bind alc
def ayx(P:Program)(w:World):List V->Hp->VK->Prop:=λxs H Q=>∃(p:Addr) (ns:List Str),xs=[.ref p]/\H p=some (abp P w p ns)/\Q (.int ns.length) H
section
variable{K:Fg}{E:XD}{J:It}{it:Itm}{fe:SE}{r:St}{rd:Sd}{U0:List Addr}{H0:Hp}{h0:Hd}{Q:VK}{n:Nat}{g:TG}{t:D->Option Sd}
theorem ale(P:Program)(w:World)(ir:ap5 K U0 H0 J it)(tg:af5 K n g t)(S:SRep K U0 H0 r rd)(Rh:HRep K U0 H0 h0)
  (o:out K E (v6 K) U0 H0 ((alb it.ck (a2n t fe rd) it.xs [] h0).bind alc) Q):av8 P w (List.replicate n none++r) g (lift K E (v6 K) fe) (λv H=>ayx P w [v] H Q) J H0:=by
 refine⟨λi m ks H=>m=it.xs.length-i/\i<=it.xs.length/\∃U h,Gr U0 H0 U H/\HRep K U H h/\out K E (v6 K) U H ((alb it.ck (a2n t fe rd) (it.xs.drop i) ks h).bind alc) Q,
  ⟨_,rfl,bE _,U0,h0,.refl _ _,Rh,o⟩,?_⟩
 rintro i m ks H ⟨rfl,hi,U,h,g0,Rh,o⟩
 by_cases hlt:i<it.xs.length
 .rw[cJ hlt,alb]at o
  by_cases hc:it.ck h
  .rw[ai hc,R.bind_assoc]at o;obtain⟨go,yl⟩:=(ir U H h g0 Rh hc).1 i _ (a6 hlt);refine .inr ⟨go,λx H' y=>?_⟩;obtain⟨g1,r1,hr1⟩:=yl x H' y;have o':=a5n o g1
   cases ht:t it.xs[i] with
   |none=>simp only[a2n,ht]at o';exact o'.elim
   |some ts =>
    simp only[a2n,ht]at o';refine tg U H' x _ ts r _ r1 ht λus hus su=>⟨abe hus,U,ts++rd,h,a3k su (S.mono (g0.trans g1)),hr1,dg o' λd2 h2 U2 H2 u g2 r2 hr2 o2=>?_⟩
    cases r2 with
    |str k =>
     dsimp only at o2
     by_cases h6:ks.length<63
     .rw[ai h6]at o2;exact⟨k,rfl,by have:scanBound=4096:=rfl;omega,it.xs.length-(i+1),by omega,rfl,hlt,U2,h2,(g0.trans g1).trans g2,hr2,o2⟩
     .rw[aL h6]at o2;exact o2.elim
    |_=>exact o2.elim
  .rw[aL hc]at o;exact o.elim
 .have e:i=it.xs.length:=by omega
  subst e;rw[cB (a8 _),alb]at o
  by_cases hc:it.ck h
  .rw[ai hc]at o;refine .inl ⟨(ir U H h g0 Rh hc).2,λp hp=>⟨p,ks,rfl,oh,?_⟩⟩;have o1:out K E (v6 K) U H (alc ks h) Q:=o;exact o1 U _ (.int (ks.length:Nat)) (a1i hp _) (.int _) (Rh.aside hp _)
  .rw[aL hc]at o;exact o.elim
end
section
variable{X:Cx}{E:XD}{aD tg aF:Expr}{aB:Scope}{p pos spos:Pos}{cl:List (Str×Addr)}{ts fr:List Str}{ix:List Nat}{fi:SI}{g:TG}{t:D->Option Sd}{fe:SE}
theorem aqc(hgl:Gl X "len")(hm:X.mg "len" = none)(hc:X.calm=true)(S:CSc X aB cl ts fr ix)(hi:MI X E tg aF fi)(hg:∀C fp s H,PG (cxC X (ts++fr) aB cl C fp s H) tg g)(ht:af5 X.K ts.length g t)(he:∀C fp s H,ME (cxC X (ts++fr) aB cl C fp s H) E aD fe)
  (hs:∀x,foldedSetIterable aF X.env x=pure x:=by intro _;rfl):ME X E (.Call (.Name "len" p) [.SetComp aD [⟨tg,aF,[],0⟩] aB spos] [] pos) (ald fi t fe ix):=by
 refine PE.weak (a3g (ahi hc) hgl hm ag8 (yj (ala (te:=lift X.K E (v6 X.K) fe) hc S hi hg he hs) a4y)) ?_
 rintro σ H Q ⟨U,τ,h,Sr,Rh,o⟩
 refine⟨U,τ,h,Sr,Rh,dg o λit h1 U1 H1 J g1 r1 hr1 o1=>?_⟩;exact ale X.prog X.w r1 ht (a3l (Sr.mono g1) ix) hr1 o1
end
end MI
namespace MI
open L2 SeqAt
noncomputable def av9:D->D->Hd->R D
 |.tup [.str a,.tup xs],.tup [.str b,.tup []],h=>.ok (.bl (a == b && xs.isEmpty)) h
 |_,_,_=>.no
noncomputable def b09(K:Fg):R2:=λx y H Q=>∃U a b xs,Rep K U H x (.tup [.str a,.tup xs])/\Rep K U H y (.tup [.str b,.tup []])/\Q (.bl (a == b && xs.isEmpty)) H
theorem ahj{K:Fg}{U:List Addr}{H:Hp}{vs:List V}{its:List Value}{a:Str}{xs:List D}(rs:Reps K U H vs [.str a,.tup xs])(r:Vals vs its) :
  ∃t p ws,its=[.str a t,.ref p]/\H p=some (.tup ws)/\Reps K U H ws xs:=by
 cases rs with
 |cons r1 rs =>
  cases rs with
  |cons r2 rs =>
   cases rs
   cases r1
   cases r2 with
   |@tup p ws _ hp rw' =>
    cases r with
    |cons e1 r =>
     cases r with
     |cons e2 r =>
      cases r
      obtain⟨t,rfl⟩:=e1;cases e2
      exact⟨t,p,ws,rfl,hp,rw'⟩
theorem ava{X:Cx}(hu:X.A.units+64<cLine):OpR X (compareOp .Eq) (b09 X.K):=by
 intro aA s σ H x y v u Q I rx ry h
 obtain⟨U,a,b,xs,r,q,hq⟩:=h;obtain⟨pa,vs,rfl,ha,rs⟩:=a4n r;obtain⟨pb,us,rfl,hb,qs⟩:=a4n q
 cases rx;cases ry
 obtain⟨_,its,r1,t1⟩:=(Rd.of ha).ok I.hok;obtain⟨_,its2,r2,t2⟩:=(Rd.of hb).ok I.hok;obtain⟨ta,p,ws,rfl,hp,rp⟩:=ahj rs r1;obtain⟨tb,p2,ws2,rfl,hp2,rp2⟩:=ahj qs r2;have t1:=t1.r;have t2:=t2.r;cases rp2
 obtain⟨_,i3,r3,t3⟩:=(Rd.of hp).ok I.hok;obtain⟨_,i4,r4,t4⟩:=(Rd.of hp2).ok I.hok;have t3:=t3.r;have t4:=t4.r;cases r4
 have inner:EqAt X.A.in1 s (.ref p) (.ref p2) xs.isEmpty:=by
  by_cases hab:p=p2
  .subst hab;rw[hp]at hp2;cases hp2
   cases rp
   exact EqAt.same _
  .have c:=RcAt.tuples (A:=X.A.in1) (s:=s) (e:=λ_=>true) t3 t4 (by rw[eN];omega) λj h1 h2=>absurd h2 (by simp)
   have e:((List.range (min i3.toArray.size ([]:List Value).toArray.size)).all (λ_=>true) && i3.toArray.size == ([]:List Value).toArray.size)=xs.isEmpty:=by
    have l:i3.length=xs.length:=by rw[<-r3.length,rp.len]
    cases xs with
    |nil=>have:i3=[]:=ei.mp (by simpa using l);subst this;rfl
    |cons x xs=>cases i3 with
     |nil=>simp at l
     |cons i is=>simp
   rw[e]at c;exact EqAt.of_refs hab c
 have c:=RcAt.tuples (A:=X.A) (s:=s) (e:=λj=>if j=0 then a == b else xs.isEmpty) t1 t2 (by omega) (λj h1 h2=>by
  match j,h1,h2 with
  |0,_,_=>exact EqAt.str_str a ta b tb
  |1,_,_=>exact inner
  |j+2,h1,_=>exact absurd h1 (by simp))
 have e:((List.range (min ([Value.str a ta,.ref p]:List Value).toArray.size ([Value.str b tb,.ref p2]:List Value).toArray.size)).all (λj=>if j=0 then a == b else xs.isEmpty) && ([Value.str a ta,.ref p]:List Value).toArray.size == ([Value.str b tb,.ref p2]:List Value).toArray.size)=(a == b && xs.isEmpty):=by
  show(List.all [0,1] _ && true)=_;simp
 rw[e]at c;exact c X.prog X.w X.xe _ ⟨.bl _,H,I,rfl,hq⟩
theorem aqd{K:Fg}:a0j K av9 (b09 K):=by
 intro E U H h x y dx dy Q rx ry hr o
 unfold av9 at o
 split at o
 .exact⟨U,_,_,_,rx,ry,ans o (.bl _) hr⟩
 .exact o.elim
end MI
namespace MI
open L2
abbrev S(l:List Nat):Str:=⟨l.toArray⟩
theorem zb(l:List Nat):(S l).cps.toList=l:=by simp
theorem a77(l:List Nat):(S l).length=l.length:=by simp[Str.length]
theorem a2v(x:Str):S x.cps.toList=x:=by cases x;simp
theorem aqe(a b:List Nat):S a++S b=S (a++b):=by rw[<-a2v (S a++S b),ayc]
theorem ayy(h:S a=S b):a=b:=by
 have:=ah (λx:Str=>x.cps.toList) h
 simpa using this
theorem aqf(a b:List Nat):(S a == S b)=decide (a=b):=by
 by_cases h:a=b
 .subst h;simp
 .have:¬ S a=S b:=λz=>h (ayy z)
  simp[h]
section
variable{h:Hd}{a b l:List Nat}{i:Nat}{c:Nat}
theorem aj1(hl:l.length<=LINE)(e:l[i]? = some c):gIx (.str (S l)) (.int (i:Nat)) h=.ok (.str (S [c])) h:=by
 unfold gIx;simp only[a77,ai hl,zb,uz e]
theorem a8p(hl:a.length+b.length<=LINE):gw (.str (S a)) (.str (S b)) h=.ok (.str (S (a++b))) h:=by
 unfold gw;simp only[a77,ai hl,aqe]
theorem a78(hl:l.length<=LINE):my [.str (S l)] h=.ok (.int l.length) h:=by
 unfold my;simp only[a77,ai hl]
theorem avb(k:Nat)(hl:l.length<=LINE):ada (.str (S l)) none (some (k:Int)) h=.ok (.str (S (l.take k))) h:=by
 show gSl (.str (S l)) none (some (k:Int)) h=_;unfold gSl;simp only[a77,ai hl,zb,ab6]
theorem adl(k:Nat)(hl:l.length<=LINE):ada (.str (S l)) (some (k:Int)) none h=.ok (.str (S (l.drop k))) h:=by
 show gSl (.str (S l)) (some (k:Int)) none h=_;unfold gSl;simp only[a77,ai hl,zb,a9t]
end
section
variable{h:Hd}{i j:Int}{xs ys:List D}
theorem a5y:gIx (.tup xs) (.int i) h=(match atI xs i with|some d=>.ok d h|none=>.no):=rfl
theorem a7r:gIx (.rol xs) (.int i) h=(match atI xs i with|some d=>.ok d h|none=>.no):=rfl
theorem a7s:gIx (.ref k) (.int i) h=(match ww (.ref k) h with|some xs=>(match atI xs i with|some d=>.ok d h|none=>.no)|none=>.no):=rfl
theorem a6k:my [.tup xs] h=.ok (.int xs.length) h:=rfl
theorem a2w:my [.rol xs] h=.ok (.int xs.length) h:=rfl
theorem a6l:my [.ref k] h=(match ww (.ref k) h with|some xs=>.ok (.int xs.length) h|none=>.no):=rfl
theorem a07:gw (.int i) (.int j) h=.ok (.int (i+j)) h:=rfl
theorem a2x:a1m (.int i) (.int j) h=.ok (.int (i+j)) h:=rfl
open Classical in
theorem a2o:yw (.int i) (.int j) h=if CMul i j then .ok (.int (i*j)) h else .no:=by unfold yw;rfl
theorem di(b:Bool):tru (.bl b) h=.ok b h:=rfl
theorem a8q:tru (.int i) h=.ok (i != 0) h:=rfl
theorem a8r:tru (.rol xs) h=.ok (!xs.isEmpty) h:=rfl
theorem a8s:tru (.tup xs) h=.ok (!xs.isEmpty) h:=rfl
theorem a8t:tru .non h=.ok false h:=rfl
theorem abq:hEq (.int i) (.int j) h=.ok (.bl (i == j)) h:=rfl
theorem abr:hNe (.int i) (.int j) h=.ok (.bl (!(i == j))) h:=rfl
theorem alf(a b:Str):hEq (.str a) (.str b) h=.ok (.bl (a == b)) h:=rfl
theorem avc(a b:Str):hNe (.str a) (.str b) h=.ok (.bl (!(a == b))) h:=rfl
theorem alg(a b:Bool):hEq (.bl a) (.bl b) h=.ok (.bl (a == b)) h:=rfl
theorem alh(a b:Bool):hNe (.bl a) (.bl b) h=.ok (.bl (!(a == b))) h:=rfl
theorem adm(x:D):gIs x .non h=.ok (.bl (a75 x)) h:=by cases x<;>rfl
theorem a3t(x:D):a5b x .non h=.ok (.bl (!a75 x)) h:=by cases x<;>rfl
theorem ali(a b:Bool):gIs (.bl a) (.bl b) h=.ok (.bl (a == b)) h:=rfl
theorem a5o(a b:Bool):a5b (.bl a) (.bl b) h=.ok (.bl (a != b)) h:=rfl
theorem ax3:a75 (.int i)=false:=rfl
theorem ax4(x:Str):a75 (.str x)=false:=rfl
theorem ax5:a75 .non=true:=rfl
theorem ax6:a75 (.tup xs)=false:=rfl
end
theorem ayz(n:Nat):rng 0 n=(List.range n).map λi:Nat=>D.int (i:Nat):=by
 unfold rng;exact List.map_congr_left λi _=>by rw[Int.zero_add]
theorem aqg(h:n<=LINE):B62 (n:Int):=by
 have:n<=16777216:=h
 unfold B62;omega
theorem aac(h:Hd)(z:n<=LINE):a0l [.int (n:Nat)] h=.ok ⟨(List.range n).map λi:Nat=>D.int (i:Nat),λ_=>True⟩ h:=by
 unfold a0l;simp only[aqg z,dB,dP,ayz]
theorem az0(e:f τ h=.ok d h):aa f aq τ h=.ok [d] h:=by unfold aa aq;rw[e];rfl
theorem abt(e:f τ h=.ok (.int (n:Nat)) h)(z:n<=LINE):sRg a0l (aa f aq) τ h=.ok ⟨(List.range n).map λi:Nat=>D.int (i:Nat),λ_=>True⟩ h:=by
 unfold sRg;rw[az0 e,bc];exact aac h z
theorem au(e:τ[i]? = some (some d)):sV i τ h=.ok d h:=by unfold sV;rw[e]
theorem zy{fi:SI}{t:D->Option Sd}{fe:SE}{ix:List Nat}{τ:Sd}{h:Hd}{α:Type}(g F:α->D)(xs:List α)(e:fi τ h=.ok ⟨xs.map g,λ_=>True⟩ h)(z:xs.length<=LINE)
  (st:∀x∈xs,a2n t fe (frs' ix τ) (g x) h=.ok (F x) h):qi fi t fe ix τ h=.ok (.ref h.length) (h++[.lst (xs.map F)]):=by
 unfold qi;rw[e,bc];dsimp only;rw[ai (by rw[aE];exact z),aa6 g F st]
 rfl
theorem a6m{fi:SI}{t:D->Option Sd}{c:ST}{fe:SE}{ix:List Nat}{τ:Sd}{h:Hd}{α:Type}(g:α->D)(F:α->Option D)(xs:List α)(e:fi τ h=.ok ⟨xs.map g,λ_=>True⟩ h)(z:xs.length<=LINE)
  (st:∀x∈xs,abd t c fe (frs' ix τ) (g x) h=.ok (F x) h):a1k fi t c fe ix τ h=.ok (.ref h.length) (h++[.lst (xs.filterMap F)]):=by
 unfold a1k;rw[e,bc];dsimp only;rw[ai (by rw[aE];exact z),aa7 g F st]
 rfl
theorem yo(fe:SE)(r:Sd)(x:D)(h:Hd):a2n t1 fe r x h=fe (some x::r) h:=rfl
theorem abu(c:ST)(fe:SE)(r:Sd)(x:D)(h:Hd):abd t1 c fe r x h=(c (some x::r) h).bind λb h1=>if b=true then (fe (some x::r) h1).bind λy h2=>.ok (some y) h2 else .ok none h1:=rfl
section
variable{f k f1 f2 f3:SE}{c c1 c2:ST}{g p q:SS}{τ τ1:Sd}{h h1 h2 h3 h4:Hd}{a b d v:D}{i:Nat}{t u:Bool}
theorem a70(d:D)(τ:Sd)(h:Hd):sC d τ h=.ok d h:=rfl
theorem ax7(e3:G [] h=.ok v h1):sA G aq τ h=.ok v h1:=e3
theorem m9(e1:f τ h=.ok a h1)(e3:G [a] h1=.ok v h2):sA G (aa f aq) τ h=.ok v h2:=by
 have:aa f aq τ h=.ok [a] h1:=by unfold aa;rw[e1];rfl
 unfold sA;rw[this,bc,e3]
theorem kj(e1:f τ h=.ok a h1)(e2:k τ h1=.ok b h2)(e3:G [a,b] h2=.ok v h3):sA G (aa f (aa k aq)) τ h=.ok v h3:=by
 have:aa f (aa k aq) τ h=.ok [a,b] h2:=by unfold aa;rw[e1,bc,e2];rfl
 unfold sA;rw[this,bc,e3]
theorem a3a(e0:f1 τ h=.ok d h1)(e1:f τ h1=.ok a h2)(e2:k τ h2=.ok b h3)(e3:G [d,a,b] h3=.ok v h4):sA G (aa f1 (aa f (aa k aq))) τ h=.ok v h4:=by
 have:aa f1 (aa f (aa k aq)) τ h=.ok [d,a,b] h3:=by unfold aa;rw[e0,bc,e1,bc,e2];rfl
 unfold sA;rw[this,bc,e3]
theorem jr(e:f τ h=.ok d h1):gj (jm i f) g τ h=g (τ.set i (some d)) h1:=by
 rw[xx];unfold jm;rw[e];rfl
theorem aqh(e:f τ h=.ok d h1):jm i f τ h=.nx (τ.set i (some d)) h1:=by
 unfold jm;rw[e];rfl
theorem wj(e:p τ h=.nx τ1 h1):gj p g τ h=g τ1 h1:=by rw[xx,e];rfl
theorem jx(e:p τ h=.rt d h1):gj p g τ h=.rt d h1:=by rw[xx,e];rfl
theorem ifT(e:c τ h=.ok true h1):sIf c p q τ h=p τ h1:=by unfold sIf;rw[e];rfl
theorem ifF(e:c τ h=.ok false h1):sIf c p q τ h=q τ h1:=by unfold sIf;rw[e];rfl
theorem ifN(e:c τ h=.ok false h1):gj (sIf c p sNx) g τ h=g τ h1:=by rw[xx,ifF e];rfl
theorem tof(e:f τ h=.ok (.bl t) h1):sT f τ h=.ok t h1:=by unfold sT;rw[e];rfl
theorem j5(e:f τ h=.ok d h1)(e':tru d h1=.ok t h2):xu f τ h=.ok t h2:=by unfold xu;rw[e,bc,e']
theorem a4f(e:c1 τ h=.ok true h1)(e':c2 τ h1=.ok t h2):zj c1 c2 τ h=.ok t h2:=by unfold zj;rw[e,bc,ai rfl,e']
theorem a5j(e:c1 τ h=.ok false h1):zj c1 c2 τ h=.ok false h1:=by unfold zj;rw[e,bc,aL (by simp)]
theorem orT(e:c1 τ h=.ok true h1):sOr c1 c2 τ h=.ok true h1:=by unfold sOr;rw[e,bc,ai rfl]
theorem orF(e:c1 τ h=.ok false h1)(e':c2 τ h1=.ok t h2):sOr c1 c2 τ h=.ok t h2:=by unfold sOr;rw[e,bc,aL (by simp),e']
theorem avd(e:c τ h=.ok t h1):yh c τ h=.ok (!t) h1:=by unfold yh;rw[e];rfl
theorem rm(e:c τ h=.ok true h1):yh c τ h=.ok false h1:=avd e
theorem a0r(e:c τ h=.ok false h1):yh c τ h=.ok true h1:=avd e
theorem fu(e:f τ h=.ok d h1):ju f τ h=.rt d h1:=by unfold ju;rw[e];rfl
theorem a3u(e:f τ h=.ok (.bl true) h1)(e':k τ h1=.ok d h2):zp f k τ h=.ok d h2:=by unfold zp;rw[e,bc];exact e'
theorem a6n(e1:f τ h=.ok d h1)(l:isL d h1=true)(e2:A τ h1=.ok ds h2)(e3:G d ds h2=.ok v h3):a1j (sML G f A) τ h=.nx τ h3:=by
 unfold a1j sML;rw[e1,bc,ai l,e2,bc,e3];rfl
theorem arg1(e:f τ h=.ok d h1):aa f aq τ h=.ok [d] h1:=by unfold aa aq;rw[e];rfl
theorem jq(e1:f τ h=.ok a h1)(e2:k τ h1=.ok b h2)(e3:G a b h2=.ok v h3):s2 G f k τ h=.ok v h3:=by
 unfold s2;rw[e1,bc,e2,bc,e3]
theorem mz(e:τ[i]? = some (some a))(e3:G a d h=.ok v h3):s2 G (sV i) (sC d) τ h=.ok v h3:=jq (au e) (a70 _ _ _) e3
theorem ckk:sC d τ h=.ok d h:=rfl
theorem tvc(e:τ[i]? = some (some a))(e3:G a d h=.ok (.bl t) h3):sT (s2 G (sV i) (sC d)) τ h=.ok t h3:=tof (jq (au e) (a70 _ _ _) e3)
theorem t2s(e1:f τ h=.ok a h1)(e2:k τ h1=.ok b h2)(e3:G a b h2=.ok (.bl t) h3):sT (s2 G f k) τ h=.ok t h3:=tof (jq e1 e2 e3)
theorem ifr(e:c τ h=.ok true h1)(e2:f τ h1=.ok d h2):sIf c (ju f) q τ h=.rt d h2:=ar (ifT e) (fu e2)
theorem ets{rr:R D}(e:f τ h=.ok d h1)(e2:toR (g (τ.set i (some d)) h1)=rr):toR (gj (jm i f) g τ h)=rr:=by rw[jr e,e2]
theorem eti{rr:R D}(e:c τ h=.ok false h1)(e2:toR (g τ h1)=rr):toR (gj (sIf c p sNx) g τ h)=rr:=by rw[ifN e,e2]
theorem etr{fa fb:Fl}{rr:R D}(e:fa=fb)(e2:toR fb=rr):toR fa=rr:=by rw[e,e2]
theorem aar(e1:f τ h=.ok a h1)(e3:G a h1=.ok v h2):s1 G f τ h=.ok v h2:=by
 unfold s1;rw[e1,bc,e3]
theorem abv(ht:τ[i]? = some (some a))(e:f τ h=.ok b h1)(e2:G a b h1=.ok d h2):acy i G f τ h=.nx (τ.set i (some d)) h2:=by
 unfold acy;rw[ht];dsimp only;rw[e,a1o,e2];rfl
theorem alj(e:f τ h=.ok d h1)(e2:G d τ h1=.nx τ1 h2):aiv f G τ h=.nx τ1 h2:=by
 unfold aiv;rw[e,a1o,e2]
theorem ave(e1:f1 τ h=.ok v h1)(e2:f2 τ h1=.ok a h2)(e3:f3 τ h2=.ok b h3)(e4:put a b v h3=some h4):aeo f1 f2 f3 τ h=.nx τ h4:=by
 unfold aeo;rw[e1,a1o,e2,a1o,e3,a1o,e4]
theorem a79{fi:SI}{G:SG}{b:SS}{xs:List D}{ck:Hd->Prop}(e:fi τ h=.ok ⟨xs,ck⟩ h1):gj (a9w fi G b) g τ h=thn (forL ck G b xs τ h1) g:=by
 rw[xx];unfold a9w;rw[e];rfl
theorem a7t(e:f τ h=.ok d h1)(e2:aiw d h1=.ok ⟨xs,ck⟩ h1):sIt f τ h=.ok ⟨xs,ck⟩ h1:=by
 unfold sIt;rw[e,bc,e2]
theorem adn(e:h[i]? = some (.lst xs))(z:xs.length<LINE):aep (.ref i) [a] h=.ok .non (h.set i (.lst (xs++[a]))):=by
 unfold aep;simp only[e,ai z]
theorem aqi(e:h[i]? = some (.lst xs))(hj:xs[j]? = some y)(z:xs.length<=LINE):a7l (.ref i) [.int (j:Nat)] h=.ok y (h.set i (.lst (xs.eraseIdx j))):=by
 have lt:j<xs.length:=(ae.mp hj).1;have:ixN xs.length (j:Int)=some j:=by unfold ixN;rw[ai (by omega),ai (by omega)];simp
 unfold a7l;simp only[e,this,hj,ai z]
theorem aad(e:h[i]? = some (.lst xs))(hj:xs[j]? = some y):gIx (.ref i) (.int (j:Nat)) h=.ok y h:=by
 rw[a7s];unfold ww;simp only[e,uz hj]
theorem az1(hj:xs[j]? = some y):gIx (.rol xs) (.int (j:Nat)) h=.ok y h:=by
 rw[a7r];simp only[uz hj]
theorem aae(hj:xs[j]? = some y):gIx (.tup xs) (.int (j:Nat)) h=.ok y h:=by
 rw[a5y];simp only[uz hj]
theorem aqj(e:h[i]? = some (.lst xs)):my [.ref i] h=.ok (.int (xs.length:Nat)) h:=by
 rw[a6l];unfold ww;simp only[e]
theorem abw(e:h[i]? = some (.lst xs)):uc [.ref i] h=.ok (.tup xs) h:=by
 unfold uc ww;simp only[e]
theorem div_ii(c:0<y/\y<1073741824):a74 (.int x) (.int y) h=.ok (.int (x / y)) h:=by unfold a74;exact ai c
theorem a5e(c:0<y):a3n (.int x) (.int y) h=.ok (.int (x%y)) h:=by unfold a3n;exact ai c
theorem ado(c:y<x):gGt (.int x) (.int y) h=.ok (.bl true) h:=by unfold gGt;simp only[c,fg]
theorem adp(c:¬ y<x):gGt (.int x) (.int y) h=.ok (.bl false) h:=by unfold gGt;simp only[c,eL]
theorem aas(c:x<y):gLt (.int x) (.int y) h=.ok (.bl true) h:=by unfold gLt;simp only[c,fg]
theorem a8u(c:¬ x<y):gLt (.int x) (.int y) h=.ok (.bl false) h:=by unfold gLt;simp only[c,eL]
theorem vm(c:x=y):hEq (.int x) (.int y) h=.ok (.bl true) h:=by rw[abq,c,cM]
theorem ux(c:¬ x=y):hEq (.int x) (.int y) h=.ok (.bl false) h:=by rw[abq,bN.mpr c]
theorem a4s(c:x=y):hNe (.int x) (.int y) h=.ok (.bl false) h:=by rw[abr,c,cM];rfl
theorem a5k(c:¬ x=y):hNe (.int x) (.int y) h=.ok (.bl true) h:=by rw[abr,bN.mpr c];rfl
theorem a2y(x:Int):agh (.int x) h=.ok (.int (-x)) h:=rfl
theorem vo(x y:Int):MI.a4e (.int x) (.int y) h=.ok (.int (x-y)) h:=rfl
theorem dh(h:n<=1000000):n<=LINE:=by show n<=16777216;omega
theorem aaf(h:n<=1000000):n<LINE:=by show n<16777216;omega
theorem yt:MI.jl [a,b] h=.ok (.tup [a,b]) h:=by unfold MI.jl;rw[ai (dh (by simp))]
end
end MI
namespace K16
open L2 MI
def a0s(ie:SF):SS :=
 (ju (s2 gGt (sA (j8 false 3 ie) (aa (sV 0) (aa (sI 5) (aa (sI 24) aq)))) (sI 0)))
def p8(jf:SF)(qt:SF)(ie:SF):SS :=
 (gj (jm 5 (sA (j8 false 3 ie) (aa (sV 4) (aa (s2 a4e (sV 1) (sI 1)) (aa (s2 a4e (sV 2) (sV 3)) aq)))))
 (gj (sIf (sT (s2 hEq (sV 5) (sI 0)))
 (ju (sI 0))
 sNx)
 (acy 3 a1m (sV 5))))
def vp(jf:SF)(qt:SF)(ie:SF):SS :=
 (gj (sIf (sOr (sT (s2 gLt (sV 1) (sI 1))) (sOr (sT (s2 gLt (sV 2) (sI 1))) (yh (xu (sA (j8 false 1 qt) (aa (sV 0) aq))))))
 (ju (sI 0))
 sNx)
 (gj (jm 3 (sI 1))
 (gj (a9w (sIt (sA (j8 false 1 jf) (aa (sV 0) aq))) (kN 4) (p8 jf qt ie))
 (ju (sV 3)))))
def a1q(ut:SF)(gq:SF)(ig:SF):SS :=
 (gj (sIf (sOr (yh (xu (sA (j8 false 3 gq) (aa (sV 0) (aa (sI 2) (aa (sI 4) aq)))))) (yh (xu (sA kh (aa (s2 gIx (sV 0) (sI 0)) (aa (sC (.ty "str")) aq))))))
 (ju (sC (.bl false)))
 sNx)
 (gj (sIf (sT (s2 hEq (s2 gIx (sV 0) (sI 0)) (sC (.str "one"))))
 (ju (zp (s2 hEq (sA my (aa (sV 0) aq)) (sI 2)) (sA (j8 false 1 ig) (aa (s2 gIx (sV 0) (sI 1)) aq))))
 sNx)
 (gj (sIf (sT (s2 hEq (s2 gIx (sV 0) (sI 0)) (sC (.str "row"))))
 (ju (zp (s2 hEq (sA my (aa (sV 0) aq)) (sI 2)) (sA (j8 false 3 gq) (aa (s2 gIx (sV 0) (sI 1)) (aa (sI 0) (aa (sI 6) aq))))))
 sNx)
 (gj (sIf (sT (s2 hEq (s2 gIx (sV 0) (sI 0)) (sC (.str "either"))))
 (ju (zp (s2 hEq (sA my (aa (sV 0) aq)) (sI 2)) (sA (j8 false 3 gq) (aa (s2 gIx (sV 0) (sI 1)) (aa (sI 1) (aa (sI 6) aq))))))
 sNx)
 (gj (sIf (sT (s2 hEq (s2 gIx (sV 0) (sI 0)) (sC (.str "many"))))
 (ju (s2 hEq (sA my (aa (sV 0) aq)) (sI 2)))
 sNx)
 (ju (zp (s2 hEq (s2 gIx (sV 0) (sI 0)) (sC (.str "times"))) (zp (s2 hEq (sA my (aa (sV 0) aq)) (sI 4)) (sA (j8 false 2 ut) (aa (s2 gIx (sV 0) (sI 2)) (aa (s2 gIx (sV 0) (sI 3)) aq)))))))))))
def a00(jg:SF):SS :=
 (ju (zp (sA (j8 false 3 jg) (aa (sV 1) (aa (sI 0) (aa (sI 4) aq)))) (sA (j8 false 3 jg) (aa (sV 0) (aa (sI 0) (aa (sV 1) aq))))))
def a6o:SS :=
 (gj (sIf (sT (s2 hEq (s2 gIx (sV 0) (sI 0)) (sC (.str "one"))))
 (ju (sA jl aq))
 sNx)
 (gj (sIf (sOr (sT (s2 hEq (s2 gIx (sV 0) (sI 0)) (sC (.str "row")))) (sT (s2 hEq (s2 gIx (sV 0) (sI 0)) (sC (.str "either")))))
 (ju (s2 gIx (sV 0) (sI 1)))
 sNx)
 (ju (sA jl (aa (s2 gIx (sV 0) (sI 1)) aq)))))
def a2z(jf:SF)(jj:SF):SE :=
 (sA (j8 false 1 jj) (aa (sV 0) aq))
def a2i(jf:SF)(jj:SF):SS :=
 (gj (sIf (sT (s2 hEq (s2 gIx (sV 0) (sI 0)) (sC (.str "one"))))
 (ju (sI 1))
 sNx)
 (gj (jm 1 (sA a76 (aa (sZ (qi (sIt (sA (j8 false 1 jf) (aa (sV 0) aq))) t1 (a2z jf jj) [])) aq)))
 (gj (sIf (sT (s2 hEq (s2 gIx (sV 0) (sI 0)) (sC (.str "times"))))
 (ju (s2 yw (s2 gIx (sV 0) (sI 3)) (sV 1)))
 sNx)
 (ju (sV 1)))))
def zc(jf:SF)(iz:SF):SS :=
 (a1j (sML ah1 (sV 1) (aa (sA (j8 false 1 iz) (aa (sV 2) aq)) aq)))
def a0t(jf:SF)(iz:SF):SS :=
 (gj (jm 1 (sA wu (aa (sV 0) aq)))
 (gj (a9w (sIt (sA (j8 false 1 jf) (aa (sV 0) aq))) (kN 2) (zc jf iz))
 (ju (sA uc (aa (sV 1) aq)))))
def a01(ig:SF):SS :=
 (ju (sA (j8 false 1 ig) (aa (sV 0) aq)))
def a1r:SE :=
 (s2 (gIn false) (sV 0) (sV 1))
def a1s:SS :=
 (ju (zp (sA kh (aa (sV 1) (aa (sC (.ty "str")) aq))) (sA aiz (aa (sZ (qi (sIt (sV 1)) t1 a1r [0])) aq))))
def ph(o8:SF)(jj:SF):SE :=
 (sA (j8 false 1 jj) (aa (sV 1) aq))
def ou(o8:SF)(jj:SF):SS :=
 (gj (sIf (yh (xu (sA (j8 false 1 o8) (aa (sV 0) aq))))
 (a5c "NoBook" (aa (sC (.str "no book")) aq))
 sNx)
 (gj (aiv (sV 0) (ajz 2 (a4m (kN 1) (a4m (kN 2) amq))))
 (gj (sIf (sT (s2 gGt (sA a76 (aa (sZ (qi (sIt (sV 2)) (tN 2) (ph o8 jj) [])) aq)) (sI 10)))
 (a5c "TooHeavy" (aa (sC (.str "the book weighs too much")) aq))
 sNx)
 (ju (sV 0)))))
def a1t(gq:SF)(o7:SF)(jt:SF):SE :=
 (sA (j8 false 2 o7) (aa (sV 1) (aa (sV 0) aq)))
def a1u(gq:SF)(o7:SF)(jt:SF):SE :=
 (sV 0)
def a1v(gq:SF)(o7:SF)(jt:SF):SS :=
 (gj (sIf (sOr (yh (xu (sA (j8 false 3 gq) (aa (sV 0) (aa (sI 2) (aa (sI 2) aq)))))) (sOr (yh (xu (sA (j8 false 1 jt) (aa (s2 gIx (sV 0) (sI 0)) aq)))) (yh (xu (sA (j8 false 3 gq) (aa (s2 gIx (sV 0) (sI 1)) (aa (sI 0) (aa (sI 6) aq))))))))
 (ju (sC (.bl false)))
 sNx)
 (gj (aiv (sV 0) (ajz 2 (a4m (kN 1) (a4m (kN 2) amq))))
 (gj (sIf (yh (xu (sA aiz (aa (sZ (qi (sIt (sV 2)) t1 (a1t gq o7 jt) [1])) aq))))
 (ju (sC (.bl false)))
 sNx)
 (ju (s2 hEq (ald (sIt (sV 2)) (tN 2) (a1u gq o7 jt) []) (sA my (aa (sV 2) aq)))))))
def a08(nu:SF)(gq:SF)(lr:SF)(mq:SF)(iz:SF):SE :=
 (sA (j8 false 2 mq) (aa (sV 1) (aa (s2 gIx (sV 0) (sI 1)) aq)))
def a09(nu:SF)(gq:SF)(lr:SF)(mq:SF)(iz:SF):ST :=
 (sT (s2 hEq (s2 gIx (sV 0) (sI 0)) (sC (.str "one"))))
def a1w(nu:SF)(gq:SF)(lr:SF)(mq:SF)(iz:SF):SS :=
 (gj (sIf (sOr (yh (xu (sA (j8 false 3 gq) (aa (sV 1) (aa (sI 2) (aa (sI 2) aq)))))) (sOr (yh (xu (sA (j8 false 1 nu) (aa (s2 gIx (sV 1) (sI 0)) aq)))) (yh (xu (sA (j8 false 1 lr) (aa (s2 gIx (sV 1) (sI 1)) aq))))))
 (ju (sC (.bl false)))
 sNx)
 (ju (sA aiz (aa (sZ (a1k (sIt (sA (j8 false 1 iz) (aa (s2 gIx (sV 1) (sI 1)) aq))) t1 (a09 nu gq lr mq iz) (a08 nu gq lr mq iz) [0])) aq))))
def a1x:SE :=
 (sCh gLe gLe (sC (.str "a")) (sV 0) (sC (.str "z")))
def a1y:SS :=
 (gj (sIf (sOr (yh (xu (sA kh (aa (sV 0) (aa (sC (.ty "str")) aq))))) (yh (sT (sCh gLe gLe (sI 1) (sA my (aa (sV 0) aq)) (sI 8)))))
 (ju (sC (.bl false)))
 sNx)
 (ju (sA aiz (aa (sZ (qi (sIt (sV 0)) t1 a1x [])) aq))))
def km:SS :=
 (sIf (sOr (yh (xu (sA kh (aa (sV 1) (aa (sC (.ty "int")) aq))))) (xu (sA kh (aa (sV 1) (aa (sC (.ty "bool")) aq)))))
 (ju (sC (.bl false)))
 sNx)
def a02:SS :=
 (gj (sIf (yh (xu (sA kh (aa (sV 0) (aa (sC (.ty "tuple")) aq)))))
 an6
 sNx)
 (gj (a9w (sIt (sV 0)) (kN 1) km)
 (ju (sC (.bl true)))))
def xn:SE :=
 (sV 0)
def lq:ST :=
 (sOr (sT (s2 (gIn false) (s2 gIx (sV 1) (sV 0)) (a2g (sV 1) oN (oS (sV 0))))) (sT (s2 (gIn true) (s2 gIx (sV 1) (sV 0)) (sV 2))))
def uf:SS :=
 (gj (sIf (sOr (yh (xu (sA kh (aa (sV 0) (aa (sC (.ty "str")) aq))))) (yh (sT (sCh gLe gLe (sI 1) (sA my (aa (sV 0) aq)) (sI 6)))))
 (ju (sC (.bl false)))
 sNx)
 (ju (s2 (a8o false) (sZ (a1k (sRg a0l (aa (sA my (aa (sV 0) aq)) aq)) t1 lq xn [0,1])) (sZ (sA wu aq)))))
def pq(c7:SF)(bh:SF)(iu:SF):SE :=
 (sA (j8 false 3 c7) (aa (sV 0) (aa (sV 1) (aa (s2 a4e (sV 2) (sI 1)) aq))))
def vq(c7:SF)(bh:SF)(iu:SF):SS :=
 (gj (sIf (sOr (yh (xu (sA kh (aa (sV 0) (aa (sC (.ty "tuple")) aq))))) (sOr (sT (s2 gLt (sA my (aa (sV 0) aq)) (sI 2))) (sOr (sT (s2 hEq (sV 2) (sI 0))) (yh (xu (sA kh (aa (s2 gIx (sV 0) (sI 0)) (aa (sC (.ty "str")) aq))))))))
 (ju (sI 0))
 sNx)
 (gj (sIf (sT (s2 hEq (s2 gIx (sV 0) (sI 0)) (sC (.str "one"))))
 (ju (sA ak6 (aa (zp (s2 hEq (sA my (aa (sV 0) aq)) (sI 2)) (sA (j8 false 2 bh) (aa (s2 gIx (sV 0) (sI 1)) (aa (sV 1) aq)))) aq)))
 sNx)
 (gj (jm 3 (sZ (sA wu aq)))
 (gj (sIf (zj (sT (s2 (gIn false) (s2 gIx (sV 0) (sI 0)) (sA jl (aa (sC (.str "row")) (aa (sC (.str "either")) aq))))) (zj (sT (s2 hEq (sA my (aa (sV 0) aq)) (sI 2))) (zj (xu (sA kh (aa (s2 gIx (sV 0) (sI 1)) (aa (sC (.ty "tuple")) aq)))) (sT (s2 gLe (sA my (aa (s2 gIx (sV 0) (sI 1)) aq)) (sI 6))))))
 (gj (sIf (sT (s2 av9 (sV 0) (sA jl (aa (sC (.str "row")) (aa (sA jl aq) aq)))))
 (ju (sI 1))
 sNx)
 (jm 3 (sZ (sA a1l (aa (s2 gIx (sV 0) (sI 1)) aq)))))
 (sIf (zj (sT (s2 hEq (s2 gIx (sV 0) (sI 0)) (sC (.str "many")))) (sT (s2 hEq (sA my (aa (sV 0) aq)) (sI 2))))
 (jm 3 (sZ (sA wu (aa (s2 gIx (sV 0) (sI 1)) aq))))
 (sIf (zj (sT (s2 hEq (s2 gIx (sV 0) (sI 0)) (sC (.str "times")))) (zj (sT (s2 hEq (sA my (aa (sV 0) aq)) (sI 4))) (zj (xu (sA (j8 false 1 iu) (aa (a2g (sV 0) (oS (sI 2)) oN) aq))) (sT (aqb gLe gLe gLe (sI 0) (s2 gIx (sV 0) (sI 2)) (s2 gIx (sV 0) (sI 3)) (sI 4))))))
 (jm 3 (sZ (sA wu (aa (s2 gIx (sV 0) (sI 1)) aq))))
 sNx)))
 (gj (jm 4 (sZ (qi (sIt (sV 3)) t1 (pq c7 bh iu) [1,2])))
 (ju (agc (sOr (sT (s2 (a8o false) (sV 4) (sZ (sA wu aq)))) (sT (s2 (gIn false) (sI 0) (sV 4)))) (sI 0) (s2 gw (sI 1) (sA a76 (aa (sV 4) aq))))))))))
def yp(c7:SF)(bh:SF)(bw:SF):SE :=
 (sV 0)
def qb(c7:SF)(bh:SF)(bw:SF):ST :=
 (sT (s2 (gIn true) (sV 0) (sC (.str "abcdefghijklmnopqrstuvwxyz"))))
def m8(c7:SF)(bh:SF)(bw:SF):SS :=
 (gj (sIf (sOr (yh (xu (sA kh (aa (sV 2) (aa (sC (.ty "tuple")) aq))))) (sOr (sT (s2 hNe (sA my (aa (sV 2) aq)) (sI 2))) (yh (xu (sA kh (aa (s2 gIx (sV 2) (sI 0)) (aa (sC (.ty "str")) aq)))))))
 (ju (sC (.bl false)))
 sNx)
 (gj (jm 3 (sZ (a1k (sIt (s2 gIx (sV 2) (sI 0))) t1 (qb c7 bh bw) (yp c7 bh bw) [])))
 (gj (sIf (sOr (yh (sT (sCh gLe gLe (sI 1) (sA my (aa (s2 gIx (sV 2) (sI 0)) aq)) (sI 8)))) (sOr (sT (s2 (a8o true) (sV 3) (sZ (sA wu aq)))) (sT (s2 (gIn false) (s2 gIx (sV 2) (sI 0)) (sV 1)))))
 (ju (sC (.bl false)))
 sNx)
 (gj (a1j (sML aep (sV 1) (aa (s2 gIx (sV 2) (sI 0)) aq)))
 (sIf (yh (sT (sCh gLe gLe (sI 1) (sA (j8 false 3 c7) (aa (s2 gIx (sV 2) (sI 1)) (aa (s2 gIx (sV 0) (sI 0)) (aa (sI 5) aq)))) (sI 24))))
 (ju (sC (.bl false)))
 sNx)))))
def vy(c7:SF)(bh:SF)(bw:SF):SS :=
 (gj (sIf (sOr (yh (xu (sA kh (aa (sV 0) (aa (sC (.ty "tuple")) aq))))) (sOr (sT (s2 hNe (sA my (aa (sV 0) aq)) (sI 2))) (yh (xu (sA (j8 false 2 bh) (aa (s2 gIx (sV 0) (sI 0)) (aa (sA (j8 false 0 bw) aq) aq)))))))
 (ju (sC (.bl false)))
 sNx)
 (gj (sIf (sOr (yh (xu (sA kh (aa (s2 gIx (sV 0) (sI 1)) (aa (sC (.ty "tuple")) aq))))) (sT (s2 gGt (sA my (aa (s2 gIx (sV 0) (sI 1)) aq)) (sI 6))))
 (ju (sC (.bl false)))
 sNx)
 (gj (jm 1 (sA wu aq))
 (gj (a9w (sIt (s2 gIx (sV 0) (sI 1))) (kN 2) (m8 c7 bh bw))
 (ju (sC (.bl true)))))))
end K16
namespace L2
def ahk:V->List V->Hp->VK->Prop:=λx vs H Q=>∃l xs i y,x=.ref l/\vs=[.int (i:Nat),y]/\H l=some (.lst xs)/\xs.length<sizeLine/\i<=xs.length/\Q .non (upd H l (.lst (xs.take i++y::xs.drop i)))
noncomputable def ahl(l:Addr)(its:Array Value)(n:Nat)(x:Int)(t:Tok)(u:Value)(h:Builtin.List.listFitsIndex x=true)(hz:its.size<=sizeLine):=AutoSeq1.list_insert_list_int_val_1 l its n x t u (by simp[h]) hz
theorem ahm{X:Cx}:MtM X "list.insert" ahk:=by
 intro aA s σ H x vs v us Q I rx rv h
 obtain⟨l,xs,i,y,rfl,rfl,hH,hz,hi,q⟩:=h;cases rx
 obtain⟨u1,u2,rfl,⟨t,rfl⟩,r2⟩:=rv.two;obtain⟨z,its,n,r,hl,e⟩:=I.lstM hH;have sz:its.toArray.size<=sizeLine:=by rw[ax];omega
 have I2:∀(f:Array Value->Array Value),f its.toArray=(its.take i++u2::its.drop i).toArray->Inv X aA σ (upd H l (.lst (xs.take i++y::xs.drop i))) {s with heap:=s.heap.update l (Obj.mapSeq f),toks:=s.toks}:=λf hf =>
  I.lset hH e hf ((r.take i).append (.cons r2 (r.drop i))) (by simp;omega)
 have hs:=fJ;obtain⟨x,hx⟩:∃x:Int,x=i:=⟨_,rfl⟩;rw[<-hx];have hf:Builtin.List.listFitsIndex x=true:=by
  unfold Builtin.List.listFitsIndex;simp only[af,b9];omega
 refine e7 F.slot_list_insert ⟨_,e,rfl⟩ F.entry_list_insert (F.args_list_insert_3 _ _ _) (ahl l its.toArray n x t u2 hf sz) ⟨e,?_⟩;refine⟨.non,_,I2 _ ?_,rfl,q⟩;have m:min i its.length=i:=fW (by omega)
 subst hx;simp[m,show ¬ ((i:Int)<0) by omega]
 exact bB (by simp)
end L2
namespace MI
open L2
noncomputable def ax8:D->List D->Hd->R D
 |.ref a,[.int (.ofNat i),y],h=>(match h[a]? with|some (.lst xs)=>if xs.length<LINE/\i<=xs.length then .ok .non (h.set a (.lst (xs.take i++y::xs.drop i))) else .no|_=>.no)
 |_,_,_=>.no
theorem aqk:amz K ax8 ahk:=by
 intro E U H h x dx xs ds Q rx r hr o
 unfold ax8 at o
 split at o
 .rename_i a i y
  cases rx with
  |@ref p _ hp =>
   cases r with
   |cons r1 rs =>
    cases r1
    cases rs with
    |cons r2 rs =>
     cases rs
     split at o
     .rename_i xs hx;obtain⟨vs,h3,h4⟩:=hr.lst hp hx
      split at o
      .rename_i hc;exact⟨p,vs,i,_,rfl,rfl,h3,by rw[h4.len,aow];exact hc.1,by rw[h4.len];exact hc.2,a6d ((h4.take i).app (.cons r2 (h4.drop i))) hr hp .non o⟩
      .exact o.elim
     .exact o.elim
 .exact o.elim
end MI
namespace L2
def ahn(x:V)(lo hi:Option Int)(y:V)(H:Hp)(Q:Hp->Prop):Prop:=∃(l b:Addr) (xs ys:List V) (a c:Nat),x=.ref l/\y=.ref b/\lo=some (a:Int)/\hi=some (c:Int)/\H l=some (.lst xs)/\H b=some (.lst ys)/\l≠b/\a<=c/\c<=xs.length/\xs.length+ys.length<=sizeLine/\Q (upd H l (.lst (xs.take a++ys++xs.drop c)))
theorem avf{X:Cx}{Q:Hp->Prop}(I:Inv X aA σ H s)(rx:RelV x ov)(ry:RelV y yv)(hs:s.heap.IsSliceOf sl vl vu .none)(pl:IsPart vl lo)(pu:IsPart vu hi)(h:ahn x lo hi y H Q) :
  wpAny (model X.prog X.w) X.A (setItem ov (.ref sl) yv) (λ_ s'=>∃H',Inv X aA σ H' s'/\Q H') X.xe s:=by
 obtain⟨l,b,xs,ys,a,c,rfl,rfl,rfl,rfl,h1,h2,hne,hac,hc,hz,q⟩:=h
 cases rx;cases ry
 obtain⟨z,its,n,r,hl,e⟩:=I.lstM h1;obtain⟨z2,its2,n2,r2,hl2,e2⟩:=I.lstM h2;refine a87 (a:=a) (c:=c) e e2 hne hs pl pu hac (by rw[ax];omega) (by rw[ax,ax];omega) ⟨_,?_,q⟩
 refine I.lset (its':=its.take a++its2++its.drop c) (t':=s.toks) h1 e ?_ (Vals.append (Vals.append (r.take _) r2) (r.drop _)) ?_
 .exact afu its its2 a c
 .rw[a9,a9,aR,aY];omega
theorem aql{X:Cx}{o:Expr}{lo hi:Option Expr}{to:TE}{tl th:TO}(ho:PE X o to)(hl:PO X lo tl)(hu:PO X hi th)
  (ha:∀v,assign (.Subscript o (.Slice lo hi none p2) pos) X.env v=(do
   let ov <-holding [v] (eval o X.env)
   let iv <-holding [v,ov] (eval (.Slice lo hi none p2) X.env)
   standAt pos
   holding [v,ov,iv] (setItem ov iv v)
   release [iv,v,ov] []):=by intro _;rfl):PG X (.Subscript o (.Slice lo hi none p2) pos) (λv σ H Q=>to σ H λx H1=>tl σ H1 λl H2=>th σ H2 λu H3=>ahn x l u v H3 λH4=>Q σ H4):=by
 intro aA s σ H v u Q I r h
 rw[ha];refine ag (cD (thn (ho aA s σ H _ I h) λov s1 ⟨x,H1,I1,r1,q1⟩=>?_));refine ag (cD (wpAny_Slice (thn (hl aA s1 σ H1 _ I1 q1) λvl s2 ⟨l,H2,I2,pl,q2⟩=>thn (hu aA s2 σ H2 _ I2 q2) λvu s3 ⟨u',H3,I3,pu,q3⟩=>?_)));rw[evalPart_none];refine aN ?_;have I4:Inv X aA σ H3 {s3 with heap:=s3.heap.push {cls:=.type "slice",data:=.fields #[vl,vu,.none]} }:=I3.kept (t':=s3.toks) λb ob q=>aJ _ q
 refine ag (de (ag (cD (thn (avf I4 r1 r (Heap.IsSliceOf.new ..) pl pu q3) λ_ s4 ⟨H5,I5,q5⟩=>?_))));exact wpAny_release ⟨σ,H5,I5,q5⟩
end L2
namespace MI
open L2
noncomputable def aho(o:D)(lo hi:Option Int)(v:D)(h:Hd):Option Hd:=match o,lo,hi,v with
 |.ref i,some (.ofNat a),some (.ofNat c),.ref j=>match h[i]?,h[j]? with
  |some (.lst xs),some (.lst ys)=>if i≠j/\a<=c/\c<=xs.length/\xs.length+ys.length<=LINE then some (h.set i (.lst (xs.take a++ys++xs.drop c))) else none
  |_,_=>none
 |_,_,_,_=>none
theorem aqm{U:List Addr}(nd:U.Nodup){i j:Nat}{a:Addr}(h1:U[i]? = some a)(h2:U[j]? = some a):i=j:=by
 obtain⟨l1,g1⟩:=ae.mp h1;obtain⟨l2,g2⟩:=ae.mp h2;have np:=bX.mp nd
 rcases Nat.lt_trichotomy i j with l|l|l
 .exact absurd (g1.trans g2.symm) (np i j l1 l2 l)
 .exact l
 .exact absurd (g2.trans g1.symm) (np j i l2 l1 l)
theorem ahp{K:Fg}{U:List Addr}{H:Hp}{h h':Hd}{o v:V}{od vd:D}{lo hi:Option Int}{Q:Hp->Prop}(r1:Rep K U H o od)(r3:Rep K U H v vd)(hr:HRep K U H h)(e:aho od lo hi vd h=some h')
  (q:∀H',Gr U H U H'->HRep K U H' h'->Q H'):ahn o lo hi v H Q:=by
 unfold aho at e
 split at e
 .rename_i i a c j
  split at e
  .rename_i xs ys e1 e2
   split at e
   .rename_i hc;cases e
    cases r1 with
    |@ref p _ hp =>
     cases r3 with
     |@ref p2 _ hp2 =>
      obtain⟨vs,h3,h4⟩:=hr.lst hp e1;obtain⟨us,h5,h6⟩:=hr.lst hp2 e2;exact⟨p,p2,vs,us,a,c,rfl,rfl,rfl,rfl,h3,h5,λz=>hc.1 (by subst z;exact aqm hr.nd hp hp2),hc.2.1,by rw[h4.len];exact hc.2.2.1,by rw[h4.len,h6.len,aow];exact hc.2.2.2,
       q _ (a5a hr hp _) (hr.put hp ⟨_,oh,(((h4.take a).app h6).app (h4.drop c)).mono (a5a hr hp _)⟩)⟩
   .cases e
  .cases e
 .cases e
noncomputable def aag(fe fo:SE)(l u:SO):SS:=λτ h=>(fe τ h).fl λv h1=>(fo τ h1).fl λo h2=>(l τ h2).fl λlo h3=>(u τ h3).fl λhi h4=>match aho o lo hi v h4 with|some h5=>.nx τ h5|none=>.no
theorem alk{X:Cx}(he:ME X E e fa)(ho:ME X E o fb)(hl:MO X E lo l)(hu:MO X E hi u)
  (hs:swapsWithSole [.Subscript o (.Slice lo hi none p2) pos'] e pos.line X.env=pure false:=by rfl) (hw:swappedStores [.Subscript o (.Slice lo hi none p2) pos'] e X.env=pure none:=by rfl)
  (h1:(assignEach [.Subscript o (.Slice lo hi none p2) pos'] X.env).map (·.2)=[assign (.Subscript o (.Slice lo hi none p2) pos') X.env]:=by rfl)
  (ha:∀v,assign (.Subscript o (.Slice lo hi none p2) pos') X.env v=(do
   let ov <-holding [v] (eval o X.env)
   let iv <-holding [v,ov] (eval (.Slice lo hi none p2) X.env)
   standAt pos'
   holding [v,ov,iv] (setItem ov iv v)
   release [iv,v,ov] []):=by intro _;rfl):MS X E (.Assign [.Subscript o (.Slice lo hi none p2) pos'] e pos) (aag fa fb l u):=by
 refine PS.weak (af9 he (aql ho hl hu ha) hs hw h1) ?_
 rintro N σ H ⟨U,τ,h,S,Rh,oo⟩
 refine⟨U,τ,h,S,Rh,qe oo λd h1 U1 H1 v g1 r1 hr1 o1=>?_⟩;refine⟨U1,τ,h1,S.mono g1,hr1,qe o1 λd2 h2 U2 H2 u g2 r2 hr2 o2=>?_⟩;refine⟨U2,τ,h2,(S.mono g1).mono g2,hr2,qe o2 λd3 h3 U3 H3 w g3 r3 hr3 o3=>?_⟩;refine⟨U3,τ,h3,((S.mono g1).mono g2).mono g3,hr3,qe o3 λd4 h4 U4 H4 w4 g4 r4 hr4 o4=>?_⟩
 cases r3;cases r4
 cases hp:aho d2 d3 d4 d h4 with
 |none=>rw[hp]at o4;exact o4.elim
 |some h5 =>
  rw[hp]at o4;exact ahp ((r2.mono g3).mono g4) (((r1.mono g2).mono g3).mono g4) hr4 hp λH' g5 hr5=>o4 U4 H' σ g5 (((((S.mono g1).mono g2).mono g3).mono g4).mono g5) hr5
end MI
namespace K19
open L2 MI
noncomputable def a2j:Str->Option Bool:=λc=>if c = "NoBook" then some false else if c = "NoPlace" then some false else if c = "TooHeavy" then some true else none
noncomputable def a5p:Str->Option Bool:=λc=>if c = "NoBook" then some true else if c = "NoPlace" then some false else if c = "TooHeavy" then some false else none
noncomputable def a3v:Str->Option Bool:=λc=>if c = "NoBook" then some false else if c = "NoPlace" then some true else if c = "TooHeavy" then some false else none
noncomputable def a0a:Str->Option Bool:=λc=>if c = "NoBook" then some true else if c = "NoPlace" then some true else if c = "TooHeavy" then some true else none
noncomputable def qx:Str->Option Bool:=λc=>if c = "NoBook" then some false else if c = "NoPlace" then some false else if c = "TooHeavy" then some false else none
noncomputable def zf:Str->Bool:=λc=>decide (c = "NoBook") || decide (c = "NoPlace") || decide (c = "TooHeavy")
def a03(dz:SF)(bu:SF):SS :=
 (gj (jm 3 (sA (u5 3 bu) (aa (sV 0) (aa (sV 1) (aa (sI 0) aq)))))
 (ju (sA (u5 1 dz) (aa (sA jl (aa (s2 gIx (sV 0) (sI 0)) (aa (s2 gw (s2 gw (a2g (sV 3) oN (oS (sV 1))) (sA jl (aa (sV 2) aq))) (a2g (sV 3) (oS (sV 1)) oN)) aq))) aq))))
def ug(dz:SF)(bu:SF):SS :=
 (gj (jm 2 (sA (u5 3 bu) (aa (sV 0) (aa (sV 1) (aa (sI 1) aq)))))
 (ju (sA (u5 1 dz) (aa (sA jl (aa (s2 gIx (sV 0) (sI 0)) (aa (s2 gw (a2g (sV 2) oN (oS (sV 1))) (a2g (sV 2) (oS (s2 gw (sV 1) (sI 1))) oN)) aq))) aq))))
def a04(dz:SF)(bu:SF):SS :=
 (gj (jm 2 (sA (u5 3 bu) (aa (sV 0) (aa (sV 1) (aa (sI 2) aq)))))
 (ju (sA (u5 1 dz) (aa (sA jl (aa (s2 gIx (sV 0) (sI 0)) (aa (s2 gw (s2 gw (a2g (sV 2) oN (oS (sV 1))) (sA jl (aa (s2 gIx (sV 2) (s2 gw (sV 1) (sI 1))) (aa (s2 gIx (sV 2) (sV 1)) aq)))) (a2g (sV 2) (oS (s2 gw (sV 1) (sI 2))) oN)) aq))) aq))))
def mj(m5:SF)(gq:SF):SS :=
 (gj (sIf (sOr (yh (xu (sA (j8 false 1 m5) (aa (sV 1) aq)))) (sT (s2 gLt (sV 1) (sI 0))))
 (a5c "NoPlace" (aa (sC (.str "no number from 0 on")) aq))
 sNx)
 (gj (sIf (sOr (yh (xu (sA (j8 false 3 gq) (aa (sV 0) (aa (sI 2) (aa (sI 2) aq)))))) (yh (xu (sA kh (aa (s2 gIx (sV 0) (sI 1)) (aa (sC (.ty "tuple")) aq))))))
 an6
 sNx)
 (gj (sIf (sT (s2 gGt (s2 gw (sV 1) (sV 2)) (sA my (aa (s2 gIx (sV 0) (sI 1)) aq))))
 (a5c "NoPlace" (aa (sC (.str "no such place")) aq))
 sNx)
 (ju (s2 gIx (sV 0) (sI 1))))))
def a05(aj:SF):SS :=
 (gj (jm 2 (sA (j8 false 2 aj) (aa (sV 0) (aa (sI 10) aq))))
 (gj (sIf (sT (s2 gLt (sV 2) (sI 7)))
 (ju (sA (j8 false 2 aj) (aa (sV 0) (aa (s2 gw (sV 1) (sI 3)) aq))))
 sNx)
 (ju (s2 gIx (sA jl (aa (s2 a4e (s1 agh (sI 1)) (sA (j8 false 2 aj) (aa (sV 0) (aa (sI 3) aq)))) (aa (s2 gw (s2 a6e (sI 10) (sI 59)) (sV 1)) (aa (sC (.bl true)) (aa (sC .non) (aa (sC (.str "0")) (aa (sA jl (aa (sI 0) aq)) aq))))))) (sA (j8 false 2 aj) (aa (sV 0) (aa (sI 6) aq)))))))
def qz(aj:SF)(iw:SF)(cu:SF)(bw:SF):SE :=
 (s2 gIx (sV 0) (sI 0))
def uh(aj:SF)(iw:SF)(cu:SF)(bw:SF):SS :=
 (gj (jm 2 (sZ (qi (sIt (s2 gIx (sV 1) (sI 1))) t1 (qz aj iw cu bw) [])))
 (gj (jm 3 (sA (j8 false 2 iw) (aa (sV 0) (aa (sV 2) aq))))
 (gj (jm 4 (sA (j8 false 5 cu) (aa (sV 0) (aa (s2 gIx (sV 1) (sI 0)) (aa (sI 3) (aa (s2 gIx (sA jl (aa (sI 2) (aa (sI 4) (aa (sI 10) aq)))) (sA (j8 false 2 aj) (aa (sV 0) (aa (sI 3) aq)))) (aa (sA wu (aa (sI 24) aq)) aq)))))))
 (gj (jm 5 (sA (j8 false 2 aj) (aa (sV 0) (aa (sI 12) aq))))
 (gj (sIf (zj (sT (s2 hEq (sV 5) (sI 0))) (sT (s2 (a8o true) (sV 2) (sZ (sA wu aq)))))
 (ju (sA jl (aa (s2 gIx (sV 2) (sA (j8 false 2 aj) (aa (sV 0) (aa (sA my (aa (sV 2) aq)) aq)))) (aa (sV 4) aq))))
 sNx)
 (gj (sIf (sT (s2 hEq (sV 5) (sI 1)))
 (ju (sA jl (aa (sV 3) (aa (sA jl (aa (sC (.str "one")) (aa (s2 gIx (sA (j8 false 0 bw) aq) (sA (j8 false 2 aj) (aa (sV 0) (aa (sI 95) aq)))) aq))) aq))))
 sNx)
 (gj (sIf (sT (s2 hEq (sV 5) (sI 2)))
 (gj (jm 6 (sA jl (aa (sC .non) (aa (sZ (sA wu (aa (sV 3) (aa (sV 4) aq)))) (aa (sA jl (aa (sV 3) (aa (sV 4) (aa (sI 0) aq)))) aq)))))
 (gj (jm 6 (s2 gw (sV 6) (sA jl (aa (sA jl (aa (s2 gw (sV 3) (sC (.str "X"))) (aa (sV 4) aq))) (aa (sA jl (aa (sV 4) (aa (sV 3) aq))) (aa (sA jl (aa (sV 3) aq)) aq))))))
 (gj (jm 6 (s2 gw (sV 6) (sA jl (aa (sA jl (aa (sZ (sA wu (aa (sV 3) aq))) (aa (sV 4) aq))) (aa (sA jl (aa (sZ aeq) (aa (sV 4) aq))) (aa (sZ aeq) (aa (sZ (sA wu aq)) aq)))))))
 (gj (jm 6 (s2 gw (sV 6) (sA jl (aa (sA jl (aa (sV 3) (aa (sA jl (aa (sZ (sA wu aq)) (aa (sC (.str "a")) aq))) aq))) (aa (sA jl (aa (sV 3) (aa (sA jl (aa (sZ aeq) (aa (sV 4) aq))) aq))) aq)))))
 (ju (s2 gIx (sV 6) (sA (j8 false 2 aj) (aa (sV 0) (aa (sA my (aa (sV 6) aq)) aq)))))))))
 sNx)
 (ju (sA jl (aa (sV 3) (aa (sV 4) aq)))))))))))
def a2k(ik:SF)(qu:SF)(dj:SF):SS :=
 (gj (jm 4 (sC .non))
 (gj (jm 5 (sC .non))
 (gj (aq7 6 zf
 (sIf (qA (sT (s2 hEq (sV 0) (sI 0))))
 (jm 4 (sA (u5 3 qu) (qA (aa (sV 1) (aa (sV 2) (aa (sV 3) aq))))))
 (sIf (qA (sT (s2 hEq (sV 0) (sI 1))))
 (jm 4 (sA (u5 2 dj) (qA (aa (sV 1) (aa (sV 2) aq)))))
 (jm 4 (sA (u5 2 ik) (qA (aa (sV 1) (aa (sV 2) aq)))))))
 (gj (jm 5 (sA jl (aa (ah8 6 a3v) (aa (ah8 6 a5p) (aa (ah8 6 a2j) aq)))))
 (jm 5 (s2 gw (sV 5) (sA jl (aa (ah8 6 qx) (aa (ah8 6 a0a) aq)))))))
 (ju (sA jl (aa (sV 4) (aa (sV 5) aq)))))))
def yg(j4:SF)(iu:SF)(b8:SF):SE :=
 (sA (j8 false 1 b8) (aa (s2 gIx (sV 0) (sI 1)) aq))
def a1z(j4:SF)(iu:SF)(b8:SF):SS :=
 (gj (jm 4 (sA a1l (aa (s2 gIx (sV 1) (sI 1)) aq)))
 (gj (sIf (sOr (yh (xu (sA (j8 false 1 iu) (aa (sA jl (aa (sV 2) aq)) aq)))) (yh (sT (sCh gLe gLt (sI 0) (sV 2) (s2 a4e (s2 gw (sA my (aa (sV 4) aq)) (sI 1)) (sV 0))))))
 (ju (sA jl (aa (sC .non) (aa (sA jl (aa (sC (.bl true)) (aa (sC (.bl false)) (aa (sC (.bl false)) (aa (sC (.bl false)) (aa (sC (.bl true)) aq)))))) aq))))
 sNx)
 (gj (sIf (sT (s2 hEq (sV 0) (sI 0)))
 (a1j (sML ax8 (sV 4) (aa (sV 2) (aa (sV 3) aq))))
 (sIf (sT (s2 hEq (sV 0) (sI 1)))
 (a1j (sML a7l (sV 4) (aa (sV 2) aq)))
 (aag (sA wu (aa (s2 gIx (sV 4) (s2 gw (sV 2) (sI 1))) (aa (s2 gIx (sV 4) (sV 2)) aq))) (sV 4) (oS (sV 2)) (oS (s2 gw (sV 2) (sI 2))))))
 (gj (jm 5 (sA jl (aa (s2 gIx (sV 1) (sI 0)) (aa (sA uc (aa (sV 4) aq)) aq))))
 (gj (sIf (yh (xu (sA (j8 false 1 j4) (aa (sV 5) aq))))
 (ju (sA jl (aa (sC .non) (aa (sA jl (aa (sC (.bl false)) (aa (sC (.bl true)) (aa (sC (.bl false)) (aa (sC (.bl false)) (aa (sC (.bl true)) aq)))))) aq))))
 sNx)
 (gj (sIf (sT (s2 gGt (sA a76 (aa (sZ (qi (sIt (sV 4)) t1 (yg j4 iu b8) [])) aq)) (sI 10)))
 (ju (sA jl (aa (sC .non) (aa (sA jl (aa (sC (.bl false)) (aa (sC (.bl false)) (aa (sC (.bl true)) (aa (sC (.bl false)) (aa (sC (.bl true)) aq)))))) aq))))
 sNx)
 (ju (sA jl (aa (sV 5) (aa (sC .non) aq))))))))))
def a5q(jy:SF)(m7:SF)(gm:SF)(jc:SF)(jz:SF)(j7:SF)(j9:SF)(ik:SF)(dj:SF):SS :=
 (gj (aiv (sA (j8 false 4 jz) (aa (sV 7) (aa (sV 2) (aa (sV 6) (aa (sV 3) aq))))) (ajz 2 (a4m (kN 8) (a4m (kN 9) amq))))
 (gj (sIf (sT (s2 hNe (sA jl (aa (sV 8) (aa (sV 9) aq))) (sA (j8 false 4 m7) (aa (sV 7) (aa (sV 2) (aa (sV 6) (aa (sV 3) aq)))))))
 an6
 sNx)
 (gj (sIf (zj (sT (s2 a5b (sV 8) (sC .non))) (sOr (yh (xu (sA kh (aa (sV 8) (aa (sC (.ty "tuple")) aq))))) (yh (xu (sA kh (aa (s2 gIx (sV 8) (sI 1)) (aa (sC (.ty "tuple")) aq)))))))
 an6
 sNx)
 (gj (sIf (zj (sT (s2 hEq (sV 7) (sI 0))) (zj (sT (s2 a5b (sV 8) (sC .non))) (sT (s2 hNe (sA (u5 2 dj) (aa (sV 8) (aa (sV 6) aq))) (sV 2)))))
 an6
 sNx)
 (sIf (zj (sT (s2 hEq (sV 7) (sI 2))) (zj (sT (s2 a5b (sV 8) (sC .non))) (sT (s2 hNe (sA (u5 2 ik) (aa (sV 8) (aa (sV 6) aq))) (sV 2)))))
 an6
 sNx)))))
def a3w(jy:SF)(m7:SF)(gm:SF)(jc:SF)(jz:SF)(j7:SF)(j9:SF)(ik:SF)(dj:SF):SS :=
 (gj (jm 6 (sA (j8 false 2 jc) (aa (sV 1) (aa (sA my (aa (s2 gIx (sV 2) (sI 1)) aq)) aq))))
 (a9w (sIt (sA jl (aa (sI 0) (aa (sI 1) (aa (sI 2) aq))))) (kN 7) (a5q jy m7 gm jc jz j7 j9 ik dj)))
def ahq(jy:SF)(m7:SF)(gm:SF)(jc:SF)(jz:SF)(j7:SF)(j9:SF)(ik:SF)(dj:SF):SS :=
 (gj (jm 1 (sA (j8 true 1 j7) (aa (sV 0) aq)))
 (gj (jm 2 (sA (j8 false 3 jy) (aa (sV 1) (aa (sA (j8 false 1 j9) (aa (sV 1) aq)) (aa (sI 10) aq)))))
 (gj (jm 3 (sA (j8 false 2 gm) (aa (sV 1) (aa (sV 2) aq))))
 (gj (jm 4 (sA abn (aa (sA jl (aa (sV 2) (aa (sV 3) aq))) aq)))
 (gj (a9w (sRg a0l (aa (sI 4) aq)) (kN 5) (a3w jy m7 gm jc jz j7 j9 ik dj))
 (ju (s2 hEq (sA abn (aa (sA jl (aa (sV 2) (aa (sV 3) aq))) aq)) (sV 4))))))))
end K19
namespace MI
open L2
theorem avh(ha:ME X E a fa)(hb:ME X E b fb)(hp:a84 b:=by with_unfolding_all exact λ_ _=>rfl):ME X E (.Subscript a b pos) (s2 gIx fa fb):=apb ha hb hp
theorem ahr(i:Nat)(hN:X.N.Nodup)(he:ME X E e fa)(hi:X.N[i]? = some x:=by rfl)(hx:Loc X.env.scope x:=by with_unfolding_all first|exact Or.inl rfl|exact Or.inr rfl)(hs:swapsWith e (some (.Name x pos')) pos.line X.env=pure false:=by rfl)(hf:Hf X x:=by with_unfolding_all first|exact .inl rfl|exact .inr rfl|assumption) :
  MS X E (.Assign [.Name x pos'] e pos) (jm i fa):=ato hN hi hx he hs hf
theorem avi{X:Cx}(G:Dn X.prog X.w X.K X.mg X.base k x ps (a0h X.K n F) f fd)(hr:Room k' X.A)(hk:k<=k')(ha:MA X X0 (e::es) ka)(hg:Gl X x:=by rfl)
  (hdb:(x == ("__debug__" : Str))=false:=by decide) (he:starEach (e::es) X.env=(false,eval e X.env)::starEach es X.env:=by rfl) (hpl:(backTo pos (starEach es X.env)).any (·.1)=false:=by rfl):ME X X0 (.Call (.Name x p) (e::es) [] pos) (sA (j8 false n F) ka):=ad9 false G (hr.mono hk) hg ha hdb he hpl
theorem avj(hm:X.mg "len" = none)(ha:MA X E [e] ka)(hg:Gl X "len":=by rfl)(he:starEach [e] X.env=(false,eval e X.env)::starEach [] X.env:=by rfl)(hpl:(backTo pos (starEach [] X.env)).any (·.1)=false:=by rfl):ME X E (.Call (.Name "len" p) [e] [] pos) (sA my ka) :=
 a9v (L2.CallR.or a9h a9i) apf hg hm ag8 ha (by decide) (by decide) he hpl
theorem a3x(ho:OpR X (compareOp op) r)(hs:a0j X.K g r)(ha:ME X E a fa)(hb:ME X E b fb)(hm:behindInMarks op b=false:=by exact a5v _):MT X E (.Compare a [op] [b] pos) (sT (s2 g fa fb)):=a8b ho hs ha hb hm
theorem ahs(hu:X.A.units+64<cLine)(ha:ME X E a fa)(hb:ME X E b fb):MT X E (.Compare a [.Eq] [b] pos) (sT (s2 hEq fa fb)):=a8b (an2 hu) ags ha hb (a5v _)
theorem pgn(i:Nat)(hN:N.Nodup:=by decide +kernel)(hi:N[i]? = some x:=by rfl)(hx:∀C fp s H,Loc (cxC X N aB cl C fp s H).env.scope x:=by with_unfolding_all exact λ_ _ _ _=>Or.inl rfl)(hf:∀C fp s H,(cxC X N aB cl C fp s H).fn x=true\/(cxC X N aB cl C fp s H).env.scope.names.lookup x=some .local:=by with_unfolding_all exact λ_ _ _ _=>.inr rfl) :
  ∀C fp s H,PG (cxC X N aB cl C fp s H) (.Name x pos) (a71 i):=λC fp s H=>aav (X:=cxC X N aB cl C fp s H) hN hi (hx C fp s H) (hf C fp s H)
theorem pgm(i:Nat)(hN:N.Nodup:=by decide +kernel)(hi:N[i]? = some x:=by rfl)(hx:Loc (cxC X N aB cl C fp s H).env.scope x:=by with_unfolding_all exact Or.inl rfl)(hf:(cxC X N aB cl C fp s H).fn x=true\/(cxC X N aB cl C fp s H).env.scope.names.lookup x=some .local:=by with_unfolding_all exact .inr rfl) :
  PG (cxC X N aB cl C fp s H) (.Name x pos) (a71 i):=aav (X:=cxC X N aB cl C fp s H) hN hi hx hf
def allP(P:α->Prop):List α->Prop
 |[]=>True
 |a::l=>P a/\allP P l
theorem allP.mem{P:α->Prop}:∀{l:List α},allP P l->∀a∈l,P a
 |b::l,h,a,m=>by
  rcases aV.mp m with rfl|m
  .exact h.1
  .exact h.2.mem a m
theorem aey{X:Cx}(ts fr:List Str)(ix:List Nat)(clos:closureFor aB X.env=pure cl:=by rfl)(kind:aB.kind=.function:=by rfl)
  (nocell:(aB.names.all λp=>p.2 != .cell)=true:=by rfl) (names:(aB.names.all λp=>p.2 != .local || aB.names.lookup p.1 == some .local)=true:=by rfl) (sub:allP (λp=>X.env.cells.lookup p.1=some p.2) cl:=by with_unfolding_all repeat' constructor)
  (has:((relabel aB X.env).names.all λp => !(p.2 == .cell || p.2 == .free) || (cl.lookup p.1).isSome)=true:=by rfl) (nofn:(ts.all λy=>(relabel aB X.env).names.lookup y == some .local)=true:=by rfl)
  (len:ix.length=fr.length:=by rfl) (vis:((fr.zip ix).all λp=>X.N[p.2]? == some p.1 && (X.env.kindOf p.1 == some .cell || X.env.kindOf p.1 == some .free) && ((relabel aB X.env).names.lookup p.1 == some .cell || (relabel aB X.env).names.lookup p.1 == some .free))=true:=by rfl) :
  CSc X aB cl ts fr ix:=.of clos kind nocell names sub.mem has nofn len vis
theorem a7a{aB:Scope}(ts:List Str)(kind:aB.kind=.function:=by rfl)(h:∀y∈aB.names,y.2≠.cell/\y.2≠.free:=by decide +kernel)(names:∀y∈aB.names,y.2=.local->aB.names.lookup y.1=some .local:=by decide +kernel)
  (ht:∀y∈ts,aB.names.lookup y=some .local:=by decide +kernel):CSc X aB [] ts [] []:=.noFree kind h names ht
section
variable{α:Type}{us:List α}
theorem len0{P:List α->Prop}(h:us.length=0)(k:P []):P us:=by cases us with|nil=>exact k|cons _ _=>cases h
theorem aez{P:List α->Prop}(h:us.length=n+1)(k:∀a vs,vs.length=n->P (a::vs)):P us:=by cases us with|nil=>cases h|cons a vs=>exact k a vs (fX h)
theorem b0a{P:List α->Prop}(h:us.length=1)(k:∀a,P [a]):P us:=aez h λa _ h=>len0 (P:=λus=>P (a::us)) h (k a)
theorem b0b{P:List α->Prop}(h:us.length=2)(k:∀a b,P [a,b]):P us:=aez h λa _ h=>b0a (P:=λus=>P (a::us)) h (k a)
theorem b0c{P:List α->Prop}(h:us.length=3)(k:∀a b c,P [a,b,c]):P us:=aez h λa _ h=>b0b (P:=λus=>P (a::us)) h (k a)
theorem b0d{P:List α->Prop}(h:us.length=4)(k:∀a b c d,P [a,b,c,d]):P us:=aez h λa _ h=>b0c (P:=λus=>P (a::us)) h (k a)
theorem b0e{P:List α->Prop}(h:us.length=5)(k:∀a b c d e,P [a,b,c,d,e]):P us:=aez h λa _ h=>b0d (P:=λus=>P (a::us)) h (k a)
theorem b1h{P:List α->Prop}(h:us.length=6)(k:∀a b c d e f,P [a,b,c,d,e,f]):P us:=aez h λa _ h=>b0e (P:=λus=>P (a::us)) h (k a)
end
end MI
namespace K19
open L2 MI
noncomputable def top(i:Nat):Stmt:=PySem.Challenge.pw_nearreach_k19_books_changed.main.body.getD i (.Pass ⟨0,0,0,0⟩)
structure Nm (mg:Str->Option Value):Prop where
 ValueError:mg "ValueError" = none
 abs:mg "abs" = none
 all:mg "all" = none
 bool:mg "bool" = none
 int:mg "int" = none
 isinstance:mg "isinstance" = none
 len:mg "len" = none
 list:mg "list" = none
 max:mg "max" = none
 ord:mg "ord" = none
 range:mg "range" = none
 repr:mg "repr" = none
 set:mg "set" = none
 str:mg "str" = none
 sum:mg "sum" = none
 tuple:mg "tuple" = none
structure Cn (mg:Str->Option Value):Prop where
 DEEPEST:∃t,mg "DEEPEST" = some (.int 5 t)
 HEAVIEST:∃t,mg "HEAVIEST" = some (.int 10 t)
 MOST_PARTS:∃t,mg "MOST_PARTS" = some (.int 24 t)
structure Xn (K:Fg) (mg:Str->Option Value) (y_NoBook y_TooHeavy y_NoPlace y_ReachError y_NoShape y_TooMany:Addr):Prop where
 g_NoBook:mg "NoBook" = some (.ref y_NoBook)
 g_TooHeavy:mg "TooHeavy" = some (.ref y_TooHeavy)
 g_NoPlace:mg "NoPlace" = some (.ref y_NoPlace)
 g_ReachError:mg "ReachError" = some (.ref y_ReachError)
 g_NoShape:mg "NoShape" = some (.ref y_NoShape)
 g_TooMany:mg "TooMany" = some (.ref y_TooMany)
 n_NoBook:PySem.W.nsIn K mainGlobals "NoBook" = some (some (.ref y_NoBook))
 c_NoBook:XCls K y_NoBook
 k_NoBook:XKit K y_NoBook
 e_NoBook_ReachError:PySem.W.exmOne K (.ref y_NoBook) (.ref y_ReachError)=some true
 i_NoBook_TooHeavy:PySem.W.kitOne K (.ref y_NoBook) (.ref y_TooHeavy)=some false
 i_NoBook_NoBook:PySem.W.kitOne K (.ref y_NoBook) (.ref y_NoBook)=some true
 i_NoBook_NoPlace:PySem.W.kitOne K (.ref y_NoBook) (.ref y_NoPlace)=some false
 i_NoBook_ValueError:PySem.W.kitOne K (.ref y_NoBook) (.type "ValueError")=some true
 i_NoBook_NoShape_TooMany:PySem.W.kitAny K (.ref y_NoBook) [.ref y_NoShape,.ref y_TooMany]=some false
 n_NoPlace:PySem.W.nsIn K mainGlobals "NoPlace" = some (some (.ref y_NoPlace))
 c_NoPlace:XCls K y_NoPlace
 k_NoPlace:XKit K y_NoPlace
 e_NoPlace_ReachError:PySem.W.exmOne K (.ref y_NoPlace) (.ref y_ReachError)=some true
 i_NoPlace_TooHeavy:PySem.W.kitOne K (.ref y_NoPlace) (.ref y_TooHeavy)=some false
 i_NoPlace_NoBook:PySem.W.kitOne K (.ref y_NoPlace) (.ref y_NoBook)=some false
 i_NoPlace_NoPlace:PySem.W.kitOne K (.ref y_NoPlace) (.ref y_NoPlace)=some true
 i_NoPlace_ValueError:PySem.W.kitOne K (.ref y_NoPlace) (.type "ValueError")=some true
 i_NoPlace_NoShape_TooMany:PySem.W.kitAny K (.ref y_NoPlace) [.ref y_NoShape,.ref y_TooMany]=some false
 n_TooHeavy:PySem.W.nsIn K mainGlobals "TooHeavy" = some (some (.ref y_TooHeavy))
 c_TooHeavy:XCls K y_TooHeavy
 k_TooHeavy:XKit K y_TooHeavy
 e_TooHeavy_ReachError:PySem.W.exmOne K (.ref y_TooHeavy) (.ref y_ReachError)=some true
 i_TooHeavy_TooHeavy:PySem.W.kitOne K (.ref y_TooHeavy) (.ref y_TooHeavy)=some true
 i_TooHeavy_NoBook:PySem.W.kitOne K (.ref y_TooHeavy) (.ref y_NoBook)=some false
 i_TooHeavy_NoPlace:PySem.W.kitOne K (.ref y_TooHeavy) (.ref y_NoPlace)=some false
 i_TooHeavy_ValueError:PySem.W.kitOne K (.ref y_TooHeavy) (.type "ValueError")=some true
 i_TooHeavy_NoShape_TooMany:PySem.W.kitAny K (.ref y_TooHeavy) [.ref y_NoShape,.ref y_TooMany]=some false
section
variable{K:Fg}{mg:Str->Option Value}{y_NoBook y_TooHeavy y_NoPlace y_ReachError y_NoShape y_TooMany:Addr}
theorem a2p(Z:Xn K mg y_NoBook y_TooHeavy y_NoPlace y_ReachError y_NoShape y_TooMany):∀c,zf c=true->∃C,mg c=some (.ref C)/\PySem.W.nsIn K mainGlobals c=some (some (.ref C))/\PySem.W.exmOne K (.ref C) (.ref y_ReachError)=some true:=by
 intro c h
 simp only[zf,cR,b9]at h
 rcases h with(rfl|rfl)|rfl
 .exact⟨_,Z.g_NoBook,Z.n_NoBook,Z.e_NoBook_ReachError⟩
 .exact⟨_,Z.g_NoPlace,Z.n_NoPlace,Z.e_NoPlace_ReachError⟩
 .exact⟨_,Z.g_TooHeavy,Z.n_TooHeavy,Z.e_TooHeavy_ReachError⟩
theorem a6p(Z:Xn K mg y_NoBook y_TooHeavy y_NoPlace y_ReachError y_NoShape y_TooMany):∀c b C,a2j c=some b->PySem.W.nsIn K mainGlobals c=some (some (.ref C))->XKit K C/\PySem.W.kitOne K (.ref C) (.ref y_TooHeavy)=some b:=by
 intro c b C h q
 unfold a2j at h
 by_cases e_NoBook:c = "NoBook"
 .subst e_NoBook;rw[ai rfl]at h;cases h;cases Z.n_NoBook.symm.trans q;exact⟨Z.k_NoBook,Z.i_NoBook_TooHeavy⟩
 rw[aL e_NoBook]at h
 by_cases e_NoPlace:c = "NoPlace"
 .subst e_NoPlace;rw[ai rfl]at h;cases h;cases Z.n_NoPlace.symm.trans q;exact⟨Z.k_NoPlace,Z.i_NoPlace_TooHeavy⟩
 rw[aL e_NoPlace]at h
 by_cases e_TooHeavy:c = "TooHeavy"
 .subst e_TooHeavy;rw[ai rfl]at h;cases h;cases Z.n_TooHeavy.symm.trans q;exact⟨Z.k_TooHeavy,Z.i_TooHeavy_TooHeavy⟩
 rw[aL e_TooHeavy]at h;cases h
theorem aah(Z:Xn K mg y_NoBook y_TooHeavy y_NoPlace y_ReachError y_NoShape y_TooMany):∀c b C,a5p c=some b->PySem.W.nsIn K mainGlobals c=some (some (.ref C))->XKit K C/\PySem.W.kitOne K (.ref C) (.ref y_NoBook)=some b:=by
 intro c b C h q
 unfold a5p at h
 by_cases e_NoBook:c = "NoBook"
 .subst e_NoBook;rw[ai rfl]at h;cases h;cases Z.n_NoBook.symm.trans q;exact⟨Z.k_NoBook,Z.i_NoBook_NoBook⟩
 rw[aL e_NoBook]at h
 by_cases e_NoPlace:c = "NoPlace"
 .subst e_NoPlace;rw[ai rfl]at h;cases h;cases Z.n_NoPlace.symm.trans q;exact⟨Z.k_NoPlace,Z.i_NoPlace_NoBook⟩
 rw[aL e_NoPlace]at h
 by_cases e_TooHeavy:c = "TooHeavy"
 .subst e_TooHeavy;rw[ai rfl]at h;cases h;cases Z.n_TooHeavy.symm.trans q;exact⟨Z.k_TooHeavy,Z.i_TooHeavy_NoBook⟩
 rw[aL e_TooHeavy]at h;cases h
theorem a7u(Z:Xn K mg y_NoBook y_TooHeavy y_NoPlace y_ReachError y_NoShape y_TooMany):∀c b C,a3v c=some b->PySem.W.nsIn K mainGlobals c=some (some (.ref C))->XKit K C/\PySem.W.kitOne K (.ref C) (.ref y_NoPlace)=some b:=by
 intro c b C h q
 unfold a3v at h
 by_cases e_NoBook:c = "NoBook"
 .subst e_NoBook;rw[ai rfl]at h;cases h;cases Z.n_NoBook.symm.trans q;exact⟨Z.k_NoBook,Z.i_NoBook_NoPlace⟩
 rw[aL e_NoBook]at h
 by_cases e_NoPlace:c = "NoPlace"
 .subst e_NoPlace;rw[ai rfl]at h;cases h;cases Z.n_NoPlace.symm.trans q;exact⟨Z.k_NoPlace,Z.i_NoPlace_NoPlace⟩
 rw[aL e_NoPlace]at h
 by_cases e_TooHeavy:c = "TooHeavy"
 .subst e_TooHeavy;rw[ai rfl]at h;cases h;cases Z.n_TooHeavy.symm.trans q;exact⟨Z.k_TooHeavy,Z.i_TooHeavy_NoPlace⟩
 rw[aL e_TooHeavy]at h;cases h
theorem a3y(Z:Xn K mg y_NoBook y_TooHeavy y_NoPlace y_ReachError y_NoShape y_TooMany):∀c b C,a0a c=some b->PySem.W.nsIn K mainGlobals c=some (some (.ref C))->XKit K C/\PySem.W.kitOne K (.ref C) (.type "ValueError")=some b:=by
 intro c b C h q
 unfold a0a at h
 by_cases e_NoBook:c = "NoBook"
 .subst e_NoBook;rw[ai rfl]at h;cases h;cases Z.n_NoBook.symm.trans q;exact⟨Z.k_NoBook,Z.i_NoBook_ValueError⟩
 rw[aL e_NoBook]at h
 by_cases e_NoPlace:c = "NoPlace"
 .subst e_NoPlace;rw[ai rfl]at h;cases h;cases Z.n_NoPlace.symm.trans q;exact⟨Z.k_NoPlace,Z.i_NoPlace_ValueError⟩
 rw[aL e_NoPlace]at h
 by_cases e_TooHeavy:c = "TooHeavy"
 .subst e_TooHeavy;rw[ai rfl]at h;cases h;cases Z.n_TooHeavy.symm.trans q;exact⟨Z.k_TooHeavy,Z.i_TooHeavy_ValueError⟩
 rw[aL e_TooHeavy]at h;cases h
theorem a0b(Z:Xn K mg y_NoBook y_TooHeavy y_NoPlace y_ReachError y_NoShape y_TooMany):∀c b C,qx c=some b->PySem.W.nsIn K mainGlobals c=some (some (.ref C))->XKit K C/\PySem.W.kitAny K (.ref C) ([y_NoShape,y_TooMany].map Value.ref)=some b:=by
 intro c b C h q
 unfold qx at h
 by_cases e_NoBook:c = "NoBook"
 .subst e_NoBook;rw[ai rfl]at h;cases h;cases Z.n_NoBook.symm.trans q;exact⟨Z.k_NoBook,Z.i_NoBook_NoShape_TooMany⟩
 rw[aL e_NoBook]at h
 by_cases e_NoPlace:c = "NoPlace"
 .subst e_NoPlace;rw[ai rfl]at h;cases h;cases Z.n_NoPlace.symm.trans q;exact⟨Z.k_NoPlace,Z.i_NoPlace_NoShape_TooMany⟩
 rw[aL e_NoPlace]at h
 by_cases e_TooHeavy:c = "TooHeavy"
 .subst e_TooHeavy;rw[ai rfl]at h;cases h;cases Z.n_TooHeavy.symm.trans q;exact⟨Z.k_TooHeavy,Z.i_TooHeavy_NoShape_TooMany⟩
 rw[aL e_TooHeavy]at h;cases h
end
section
variable{P:Program}{w:World}{K:Fg}{mg:Str->Option Value}{base:Heap}{f:Addr}
def MD(P:Program)(w:World)(K:Fg)(mg:Str->Option Value)(base:Heap)(f:Addr)(k:Nat)(N ps:List Str)(x:Str)(t:Stmt)(b:SS):Prop:=FnScope N ps (fj t)/\∀(cdv:Value) (A:Around) (outer:List Env) (s:Shared) (H:Hp) (E:XK),Room k (A.deeper (PyProof.Rows.envOfC x (fj t) s.heap.objs.size f cdv))->MSs (afm CX0 P w K mg base N x (fj t) f cdv A outer s H E).nox X0 (qd t) b
theorem md{N ps:List Str}{x:Str}{t:Stmt}{b:SS}(S:FnScope N ps (fj t))(h:FnScope N ps (fj t)->∀(cdv:Value) (A:Around) (outer:List Env) (s:Shared) (H:Hp) (E:XK),Room k (A.deeper (PyProof.Rows.envOfC x (fj t) s.heap.objs.size f cdv))->MSs (afm CX0 P w K mg base N x (fj t) f cdv A outer s H E).nox X0 (qd t) b):MD P w K mg base f k N ps x t b:=⟨S,h S⟩
local macro_rules|`(tactic|walk_at "sc") => `(tactic|exact⟨rfl,rfl,rfl,by decide +kernel,rfl,by decide +kernel,by decide +kernel⟩)
def Dk(P:Program)(w:World)(K:Fg)(mg:Str->Option Value)(base:Heap)(k:Nat)(x:Str)(ps:List Str)(F:SF):Prop:=∃a d j,Dn P w K mg base j x ps (a0h K ps.length F) a d/\j<=k
theorem dk{x:Str}{ps:List Str}{F:SF}{a:Addr}{d:FuncData}{j k:Nat}(D:Dn P w K mg base j x ps (a0h K ps.length F) a d)(h:j<=k:=by decide):Dk P w K mg base k x ps F:=⟨a,d,j,D,h⟩
theorem az2{X:Cx}{x:Str}{ps:List Str}{F:SF}{k n:Nat}{e:Expr}{es:List Expr}{ka:SA}{p pos:Pos}(G:Dk X.prog X.w X.K X.mg X.base k x ps F)(hr:Room k X.A)(ha:MA X X0 (e::es) ka)(hn:n=ps.length:=by rfl)(hg:Gl X x:=by rfl)(hdb:(x == ("__debug__" : Str))=false:=by decide)(he:starEach (e::es) X.env=(false,eval e X.env)::starEach es X.env:=by rfl)(hpl:(backTo pos (starEach es X.env)).any (·.1)=false:=by rfl):ME X X0 (.Call (.Name x p) (e::es) [] pos) (sA (j8 false n F) ka):=by
 subst hn;obtain⟨_,_,_,D,h⟩:=G;exact avi D hr h ha hg hdb he hpl
set_option hygiene false
local macro_rules|`(tactic|walk_at "m") => `(tactic|refine md ⟨rfl,rfl,rfl,by decide +kernel,rfl,by decide +kernel,by decide +kernel⟩ ?_;intro SC cdv A outer s H E hr)
local macro_rules|`(tactic|rfl) => `(tactic|with_unfolding_all exact Eq.refl _)
local macro_rules|`(tactic|exists $e) => `(tactic|with_unfolding_all exact $e)
local macro_rules|`(tactic|ac_rfl) => `(tactic|with_unfolding_all assumption)
local macro_rules|`(tactic|walk_at "d") => do
 let I:=Lean.mkIdent∘String.toName
 let A:=Lean.Syntax.mkApp
 let L (c:Char) (w:String) : Lean.Term:=(w.splitOn ",").foldr (fun x y=>A (I "List.cons") #[if c=='#' then ⟨Lean.Syntax.mkNumLit x⟩ else ⟨Lean.Syntax.mkStrLit x⟩,y]) (I "List.nil")
 let T (t:String) : Lean.MacroM Lean.Term:=do
  return(←(t.splitOn " ").foldlM (fun (k:List Lean.Term) w=>do
   let v:=(w.drop 1).copy
   match w.front with
   |'?' => return (←`(?_))::k
   |'_' => return (←`(_))::k
   |'=' => return (←`((by rfl)))::k
   |'~' => return (←`((by ac_rfl)))::k
   |'*' => return (←`((by assumption)))::k
   |'^' => return (←`((by decide +kernel)))::k
   |'!' => return (←`((by exists $(k.head!))))::k.tail
   |'/' => return (←`((fun _ _ _ _=>$(k.head!))))::k.tail
   |':' => let n:=v.toNat!;return A (k.drop n).head! (k.take n).reverse.toArray::k.drop (n+1)
   |c => return (if c=='#'||c=='\'' then L c v else I w)::k) []).head!
 let F (l:List (Lean.TSyntax `tactic)) : Lean.MacroM (Lean.TSyntax `tactic):=do l.foldrM (fun a b=>`(tactic|first|$a:tactic|$b:tactic)) (←`(tactic|fail))
 let Q (x:String) : Lean.MacroM (Lean.TSyntax `tactic):=do `(tactic|refine $(←T x))
 let G (l:List String) (f:String->Lean.MacroM (Lean.TSyntax `tactic)) : Lean.MacroM (Lean.TSyntax `tactic):=do `(tactic|(show $(←T l.head!);$(←F (←l.tail.mapM f)):tactic))
 let R←F (←("PE _ _ _ :3|b1c ? :1|PE _ Expr.Name _ _ :2 _ :3&aem _ :1&ajw = M.tuple ! acq :3&ajw = M.str ! at8 :3&ajw = M.int ! aml :3&ajw = M.bool ! apq :3&ab9 = C.DEEPEST.choose_spec ! :2&ab9 = C.MOST_PARTS.choose_spec ! :2&ab9 = C.HEAVIEST.choose_spec ! :2|PE _ Expr.Constant _ _ _ :3 _ :3&aga&atd&aye&agb|PE _ Expr.Call _ _ _ _ :4 _ :3&az2 ~ hr ! ? :3&avi ~ hr ! ~ ? :4&avj M.len ! ? :2&a9v L2.CallR.or ab0 aa8 :2 akr = M.isinstance ! jd ? :6&a9v aek = :1 apn = M.sum ! aui ? :6&a9v ab1 = :1 apm = M.all ! atb ? :6&abb L2.CallR.or a86 a9n = :1 :2 agq = M.tuple ! acq ? :6&akx false ~ hr.mono * :1 ! = ? :5&abb afj aph = M.int ! aml ? :6&abb L2.CallR.or a9j ab2 = :1 :2 ak9 = M.list ! aov ? :6&a9v ah4 hr.gd ! hr.u ! :2 akq = M.repr ! aq2 ? :6&ah6 ~ hr.mono * :1 ! = ? :4&a9v ajh api = M.ord ! at9 ? :6&aqc = M.len ! = a7a 'name,shape :1 ? af8 = a3f pgm _ :1 a3f pgm _ :1 aaw :2 :2 :2 / amt ? / :8&a9v ajg apg = M.abs ! atc ? :6&a9v afi = :1 ak5 = M.max ! auh ? :6&ad9 true ~ hr.mono * :1 ! = ? :5|PE _ Expr.Subscript _ _ _ :3 _ :3&avh ? ? :2&agy ? ? ? :3|PE _ Expr.BinOp _ _ _ _ :4 _ :3&ah0 ? ? :2&au2 ? ? :2&au3 ? ? :2&aq0 ? ? :2&au5 ? ? :2&au4 ? ? :2|acx ? :1|PE _ Expr.BoolOp _ _ _ :3 _ :3&atj ? ? :2&ati ? :1|atm ? :1|PE _ Expr.Compare _ _ _ _ :4 _ :3&a4l an2 hr.u ! :1 ags ? ? a5v _ :1 :5&ajx a81.or v5 :1 a81.or v5 :1 a3o a3o ? ? ? :7&a4l an3 hr.u ! :1 agt ? ? a5v _ :1 :5&a4l asn amv ? ? a5v _ :1 :5&a4l ag9.or a9f :1 agm ? ? = :5&a4l aoe.or a5u :1 agi ? ? a5v _ :1 :5&a4l anb hr.u ! :1 abo false :1 ? ? a5v _ :1 :5|PE _ Expr.ListComp _ _ _ _ :4 _ :3&a0x = a7a 'sign :1 ? pgn _ :1 a06 ? / :6&a0x = a7a 'part :1 ? pgn _ :1 a06 ? / :6&a0x = aey 'sign 'tongue #0 :3 ? pgn _ :1 a06 ? / :6&a0x = a7a 'name,shape :1 ? af8 = a3f pgm _ :1 a3f pgm _ :1 aaw :2 :2 :2 / amt ? / :6&a0x = aey 'rule 'tongue #1 :3 ? pgn _ :1 a06 ? / :6&ad1 = aey 'part 'tongue #0 :3 ? pgn _ :1 a06 ? / ? / :7&a0x = a7a 'letter :1 ? pgn _ :1 a06 ? / :6&a0x = a7a '_law_part :1 ? pgn _ :1 a06 ? / :6&a0x = aey '_law_k '_law_left,_law_letters #0,2 :3 ? pgn _ :1 a06 ? / :6&ad1 = aey '_law_k '_law_thing,_law_tongue_here #0,1 :3 ? pgn _ :1 a06 ? / ? / :7&a0x = a7a '_law_one :1 ? pgn _ :1 a06 ? / :6|aky ~ hr.mono * :1 ! = ? :4|ak7 PySem.F.slot_list_append PySem.F.type_list_append aft ! apk ? ? :6|agw false ~ hr.mono * :1 ! = :4|apo|PE _ Expr.UnaryOp _ _ _ :3 _ :3&au6 ? :1&atk ? :1|agr = = M.len ! = M.set ! ? :6|ak7 PySem.F.slot_list_extend PySem.F.type_list_extend MtR.or aeu ael :2 ! akl ? ? :6|aue PySem.F.slot_str_join PySem.F.type_str_join aoy ! ak8 ? ? :6|aue PySem.F.slot_str_index PySem.F.type_str_index aju ! agp ? ? :6|ak7 PySem.F.slot_list_insert PySem.F.type_list_insert ahm ! aqk ? ? :6|ak7 PySem.F.slot_list_pop PySem.F.type_list_pop ajl ! ago ? ? :6|atl ? ? ? :3;PSs _ _ _ :3|aul|a2e ? ? :2|a8c ? :1|ap1;PA _ _ _ :3|ur ? ? :2|a6c;PS _ _ _ :3|amn ? :1|ayi ? ? ? :3|ahr _ SC.nd ! ? :3|PS _ Stmt.For _ _ _ _ _ :5 _ :3&atx PassesOwn.never = ? ? ? :5|ap2 ? :1|PS _ Stmt.Assign _ _ _ :3 _ :3&atr ? ? :2&atp ? ? ? :3&alk ? ? ? ? :4|amo SC.nd ! = Or.inl rfl :1 ! afd.or a5w :1 ad6 ? :6|PS _ Stmt.AugAssign _ _ _ _ :4 _ :3&abj ? ? ? afd.or a5w :1 ad6 :5&abj ? ? ? ajb agg :5&abj ? ? ? afe abf :5|a8n Z.c_NoPlace ! = Z.g_NoPlace ! ? :4|amo SC.nd ! = Or.inl rfl :1 ! afe abf ? :6|a8n Z.c_NoBook ! = Z.g_NoBook ! ? :4|a8n Z.c_TooHeavy ! = Z.g_TooHeavy ! ? :4|a8j SC.nd ! = Or.inl rfl :1 ! = a7a '_law_cell :1 ? pgn _ :1 a06 ? / :9|a8j SC.nd ! = Or.inl rfl :1 ! = aey '_law_part '_law_tongue_here,_law_deep #1,2 :3 ? pgn _ :1 a06 ? / :9|akg SC.nd ! = Or.inl rfl :1 ! = a7a '_law_letter :1 ? pgn _ :1 a06 ? / ? / :10|a8j SC.nd ! = Or.inl rfl :1 ! = a7a '_law_rule :1 ? pgn _ :1 a06 ? / :9|ajy _ PassesOwn.never ? ? :4;PT _ _ _ :3|PT _ Expr.Compare _ _ _ _ :4 _ :3&ahs hr.u ! ? ? :3&a3x aoe.or a5u :1 agi ? ? :4&a3x an3 hr.u ! :1 agt ? ? :4&a3x asn amv ? ? :4&a8b ag9.or a9f :1 agm ? ? = :5&acw a81.or v5 :1 a81.or v5 :1 a3o a3o ? ? ? :7&a3x av3 hr.u ! :1 abo true :1 ? ? :4&a3x aog.or aaz :1 agk ? ? :4&a8b aej.or a9g :1 ape ? ? = :5&a3x ay1 au7 ? ? :4&a3x a81.or v5 :1 a3o ? ? :4&a3x ava hr.u ! :1 aqd ? ? :4&ahf a81.or v5 :1 a81.or v5 :1 a81.or v5 :1 a3o a3o a3o ? ? ? ? :10&a3x anb hr.u ! :1 abo false :1 ? ? :4&acw a81.or v5 :1 aoe.or a5u :1 a3o agi ? ? ? :7|ath ? :1|ate ? :1|PW.pt ? :1;PW _ _ _ :3|ayh ? ? :2|atf ? :1|atg ? ? :2|ap0 ? :1;PO _ _ _ :3|apd ? :1|apc;PI _ _ _ _ :4|atu ? :1|ap6 = M.range ! ? :3;PG _ _ _ :3|agf SC.nd ! = Or.inl rfl :1 ! :3|atq = ? :2|agf SC.nd ! = Or.inr rfl :1 ! :3;PGs _ _ _ :3|akd ? ? :2|ap4".splitOn ";").mapM fun x=>G (x.splitOn "|") fun x=>let l:=x.splitOn "&";if l.length==1 then Q x else G l Q)
 `(tactic|with_reducible repeat' first
  |$R:tactic
  |(show PE _ _ _;(show PE _ (.Call _ _ _ _) _;first|exact a5d (by rfl) (by exists M.isinstance) jd (by rfl) (by exists Or.inl rfl) (zm (v:=.ref y_NoPlace) (by rfl) Z.g_NoPlace (by rfl)) (.inl ⟨_,rfl,rfl⟩) (a7u Z)|exact a5d (by rfl) (by exists M.isinstance) jd (by rfl) (by exists Or.inl rfl) (zm (v:=.ref y_NoBook) (by rfl) Z.g_NoBook (by rfl)) (.inl ⟨_,rfl,rfl⟩) (aah Z)|exact a5d (by rfl) (by exists M.isinstance) jd (by rfl) (by exists Or.inl rfl) (zm (v:=.ref y_TooHeavy) (by rfl) Z.g_TooHeavy (by rfl)) (.inl ⟨_,rfl,rfl⟩) (a6p Z)|exact ah9 (cs:=[y_NoShape,y_TooMany]) (by rfl) (by exists M.isinstance) jd (by rfl) (by exists Or.inl rfl) (yj (zm (v:=.ref y_NoShape) (by rfl) Z.g_NoShape (by rfl)) (yj (zm (v:=.ref y_TooMany) (by rfl) Z.g_TooMany (by rfl)) a4y)) (λ_ _ _ q=>q) (a8a (by simp)) (a0b Z)|exact a5d (by rfl) (by exists M.isinstance) jd (by rfl) (by exists Or.inl rfl) (aau (v:=.ty "ValueError") (by rfl) (by exists M.ValueError) PyProof.Rows.Boot.«ValueError» (by rfl)) (.inr ⟨_,rfl,rfl⟩) (a3y Z)))
  |(show PS _ _ _;refine an9 ⟨rfl,Z.g_ReachError,SC.nd,rfl,rfl,⟨rfl,rfl⟩ ,by decide⟩ (a2p Z) (akz ?_ (a7q (i:=4) (by exists SC.nd) (by rfl) (by exists Or.inl rfl) (a4r D_18 (by exists hr.mono (by assumption)) (by rfl) ?_)) (akz ?_ (a7q (i:=4) (by exists SC.nd) (by rfl) (by exists Or.inl rfl) (a4r D_19 (by exists hr.mono (by assumption)) (by rfl) ?_)) (a7q (i:=4) (by exists SC.nd) (by rfl) (by exists Or.inl rfl) (a4r D_20 (by exists hr.mono (by assumption)) (by rfl) ?_)))) (λa=>?_))
  |(with_unfolding_all first|refine a2e ?_ ?_|refine a8c ?_))
theorem m_0(M:Nm mg):MD P w K mg base f k ["thing"] ["thing"] "is_number" (top 1) (K20.zx):=by
 walk_at "m"
 unfold K20.zx
 walk_at "d"
theorem m_1(D_0:Dn P w K mg base k_0 "is_number" ["thing"] (a0h K 1 F_0) a_0 d_0)(h_0:k_0<=k):MD P w K mg base f k ["thing","low","high"] ["thing","low","high"] "is_number_from" (top 2) (K20.p7 F_0):=by
 walk_at "m"
 unfold K20.p7
 walk_at "d"
theorem m_2(M:Nm mg):MD P w K mg base f k ["thing","low","high"] ["thing","low","high"] "is_row" (top 3) (K20.a3s):=by
 walk_at "m"
 unfold K20.a3s
 walk_at "d"
theorem m_3(M:Nm mg):MD P w K mg base f k ["thing"] ["thing"] "is_sign" (top 4) (K20.a1p):=by
 walk_at "m"
 unfold K20.a1p
 walk_at "d"
theorem m_4(M:Nm mg)(D_3:Dk P w K mg base k "is_sign" ["thing"] F_3):MD P w K mg base f k ["thing"] ["thing"] "is_unlike_signs" (top 5) (K20.n6 F_3):=by
 walk_at "m"
 unfold K20.n6 K20.u6
 walk_at "d"
theorem m_5(C:Cn mg)(D_6:Dk P w K mg base k "parts_count" ["thing","deep","most"] F_6):MD P w K mg base f k ["thing"] ["thing"] "is_shape" (top 10) (K16.a0s F_6):=by
 walk_at "m"
 unfold K16.a0s
 walk_at "d"
theorem m_6(D_9:Dk P w K mg base k "inner" ["shape"] F_9)(D_7:Dk P w K mg base k "is_form" ["thing"] F_7)(D_6:Dk P w K mg base k "parts_count" ["thing","deep","most"] F_6):MD P w K mg base f k ["thing","deep","most","count","part","more"] ["thing","deep","most"] "parts_count" (top 11) (K16.vp F_9 F_7 F_6):=by
 walk_at "m"
 unfold K16.vp K16.p8
 walk_at "d"
theorem m_7(M:Nm mg)(D_8:Dk P w K mg base k "are_times" ["low","high"] F_8)(D_2:Dn P w K mg base k_2 "is_row" ["thing","low","high"] (a0h K 3 F_2) a_2 d_2)(h_2:k_2<=k)(D_4:Dk P w K mg base k "is_unlike_signs" ["thing"] F_4):MD P w K mg base f k ["thing"] ["thing"] "is_form" (top 12) (K16.a1q F_8 F_2 F_4):=by
 walk_at "m"
 unfold K16.a1q
 walk_at "d"
theorem m_8(D_1:Dk P w K mg base k "is_number_from" ["thing","low","high"] F_1):MD P w K mg base f k ["low","high"] ["low","high"] "are_times" (top 13) (K16.a00 F_1):=by
 walk_at "m"
 unfold K16.a00
 walk_at "d"
theorem m_9:MD P w K mg base f k ["shape"] ["shape"] "inner" (top 14) (K16.a6o):=by
 walk_at "m"
 unfold K16.a6o
 walk_at "d"
theorem b1i(M:Nm mg)(D_9:Dk P w K mg base k "inner" ["shape"] F_9)(D_10:Dn P w K mg base k_10 "weight" ["shape"] (a0h K 1 F_10) a_10 axk)(h_10:k_10<=k):MD P w K mg base f k ["shape","parts"] ["shape"] "weight" (top 15) (K16.a2i F_9 F_10):=by
 walk_at "m"
 unfold K16.a2i K16.a2z
 walk_at "d"
theorem b1j(M:Nm mg)(D_9:Dk P w K mg base k "inner" ["shape"] F_9)(D_11:Dk P w K mg base k "parts_of" ["shape"] F_11):MD P w K mg base f k ["shape","found","part"] ["shape"] "parts_of" (top 16) (K16.a0t F_9 F_11):=by
 walk_at "m"
 unfold K16.a0t K16.zc
 walk_at "d"
theorem b1k(D_4:Dk P w K mg base k "is_unlike_signs" ["thing"] F_4):MD P w K mg base f k ["thing"] ["thing"] "is_tongue" (top 25) (K16.a01 F_4):=by
 walk_at "m"
 unfold K16.a01
 walk_at "d"
theorem b1l(M:Nm mg):MD P w K mg base f k ["tongue","thing"] ["tongue","thing"] "is_text" (top 26) (K16.a1s):=by
 walk_at "m"
 unfold K16.a1s K16.a1r
 walk_at "d"
theorem avk:FnScope ["thing","tongue","rules"] ["thing"] (fj (top 28)):=by walk_at "sc"
theorem b1m{k:Nat}(M:Nm mg)(C:Cn mg){y_NoBook y_TooHeavy y_NoPlace y_ReachError y_NoShape y_TooMany:Addr}(Z:Xn K mg y_NoBook y_TooHeavy y_NoPlace y_ReachError y_NoShape y_TooMany){a_15:Addr}{d_15:FuncData}{k_15:Nat}{F_15:SF}(D_15:Dn P w K mg base k_15 "is_book" ["thing"] (a0h K 1 F_15) a_15 d_15)(h_15:k_15<=k){a_10:Addr}{axk:FuncData}{k_10:Nat}{F_10:SF}(D_10:Dn P w K mg base k_10 "weight" ["shape"] (a0h K 1 F_10) a_10 axk)(h_10:k_10<=k)(cdv:Value)(A:Around)(outer:List Env)(s:Shared)(H:Hp)(E:XK)(hr:Room k (A.deeper (PyProof.Rows.envOfC "looked_book" (fj (top 28)) s.heap.objs.size f cdv))):MSs (cxE P w K mg base ["thing","tongue","rules"] "looked_book" (fj (top 28)) f cdv A outer s H E) (aaq mg E) (qd (top 28)) (K16.ou F_15 F_10):=by
 have SC:=avk;unfold K16.ou K16.ph
 walk_at "d"
theorem b1n(M:Nm mg)(D_2:Dn P w K mg base k_2 "is_row" ["thing","low","high"] (a0h K 3 F_2) a_2 d_2)(h_2:k_2<=k)(D_16:Dk P w K mg base k "is_rule" ["tongue","thing"] F_16)(D_12:Dk P w K mg base k "is_tongue" ["thing"] F_12):MD P w K mg base f k ["thing","tongue","rules"] ["thing"] "is_book" (top 29) (K16.a1v F_2 F_16 F_12):=by
 walk_at "m"
 unfold K16.a1v K16.a1u K16.a1t
 walk_at "d"
theorem b1o(M:Nm mg)(D_17:Dk P w K mg base k "is_name" ["thing"] F_17)(D_2:Dn P w K mg base k_2 "is_row" ["thing","low","high"] (a0h K 3 F_2) a_2 d_2)(h_2:k_2<=k)(D_5:Dk P w K mg base k "is_shape" ["thing"] F_5)(D_13:Dk P w K mg base k "is_text" ["tongue","thing"] F_13)(D_11:Dk P w K mg base k "parts_of" ["shape"] F_11):MD P w K mg base f k ["tongue","thing"] ["tongue","thing"] "is_rule" (top 30) (K16.a1w F_17 F_2 F_5 F_13 F_11):=by
 walk_at "m"
 unfold K16.a1w K16.a09 K16.a08
 walk_at "d"
theorem b1p(M:Nm mg):MD P w K mg base f k ["thing"] ["thing"] "is_name" (top 31) (K16.a1y):=by
 walk_at "m"
 unfold K16.a1y K16.a1x
 walk_at "d"
theorem avl:FnScope ["book","at","rule","rules"] ["book","at","rule"] (fj (top 32)):=by walk_at "sc"
theorem b1q{k:Nat}{a_14:Addr}{d_14:FuncData}{k_14:Nat}{F_14:SF}(D_14:DnX P w K mg base k_14 "looked_book" ["thing"] (spX K mg 1 F_14) a_14 d_14)(h_14:k_14<=k){a_21:Addr}{d_21:FuncData}{k_21:Nat}{F_21:SF}(D_21:DnX P w K mg base k_21 "rules_with_place" ["book","at","wanted"] (spX K mg 3 F_21) a_21 d_21)(h_21:k_21<=k)(cdv:Value)(A:Around)(outer:List Env)(s:Shared)(H:Hp)(E:XK)(hr:Room k (A.deeper (PyProof.Rows.envOfC "with_rule" (fj (top 32)) s.heap.objs.size f cdv))):MSs (cxE P w K mg base ["book","at","rule","rules"] "with_rule" (fj (top 32)) f cdv A outer s H E) (aaq mg E) (qd (top 32)) (a03 F_14 F_21):=by
 have SC:=avl;unfold a03
 walk_at "d"
theorem avm:FnScope ["book","at","rules"] ["book","at"] (fj (top 33)):=by walk_at "sc"
theorem b1r{k:Nat}{a_14:Addr}{d_14:FuncData}{k_14:Nat}{F_14:SF}(D_14:DnX P w K mg base k_14 "looked_book" ["thing"] (spX K mg 1 F_14) a_14 d_14)(h_14:k_14<=k){a_21:Addr}{d_21:FuncData}{k_21:Nat}{F_21:SF}(D_21:DnX P w K mg base k_21 "rules_with_place" ["book","at","wanted"] (spX K mg 3 F_21) a_21 d_21)(h_21:k_21<=k)(cdv:Value)(A:Around)(outer:List Env)(s:Shared)(H:Hp)(E:XK)(hr:Room k (A.deeper (PyProof.Rows.envOfC "without_rule" (fj (top 33)) s.heap.objs.size f cdv))):MSs (cxE P w K mg base ["book","at","rules"] "without_rule" (fj (top 33)) f cdv A outer s H E) (aaq mg E) (qd (top 33)) (ug F_14 F_21):=by
 have SC:=avm;unfold ug
 walk_at "d"
theorem avn:FnScope ["book","at","rules"] ["book","at"] (fj (top 34)):=by walk_at "sc"
theorem b1s{k:Nat}{a_14:Addr}{d_14:FuncData}{k_14:Nat}{F_14:SF}(D_14:DnX P w K mg base k_14 "looked_book" ["thing"] (spX K mg 1 F_14) a_14 d_14)(h_14:k_14<=k){a_21:Addr}{d_21:FuncData}{k_21:Nat}{F_21:SF}(D_21:DnX P w K mg base k_21 "rules_with_place" ["book","at","wanted"] (spX K mg 3 F_21) a_21 d_21)(h_21:k_21<=k)(cdv:Value)(A:Around)(outer:List Env)(s:Shared)(H:Hp)(E:XK)(hr:Room k (A.deeper (PyProof.Rows.envOfC "exchanged" (fj (top 34)) s.heap.objs.size f cdv))):MSs (cxE P w K mg base ["book","at","rules"] "exchanged" (fj (top 34)) f cdv A outer s H E) (aaq mg E) (qd (top 34)) (a04 F_14 F_21):=by
 have SC:=avn;unfold a04
 walk_at "d"
theorem avo:FnScope ["book","at","wanted"] ["book","at","wanted"] (fj (top 35)):=by walk_at "sc"
theorem b1t{k:Nat}(M:Nm mg){y_NoBook y_TooHeavy y_NoPlace y_ReachError y_NoShape y_TooMany:Addr}(Z:Xn K mg y_NoBook y_TooHeavy y_NoPlace y_ReachError y_NoShape y_TooMany){a_0:Addr}{d_0:FuncData}{k_0:Nat}{F_0:SF}(D_0:Dn P w K mg base k_0 "is_number" ["thing"] (a0h K 1 F_0) a_0 d_0)(h_0:k_0<=k){a_2:Addr}{d_2:FuncData}{k_2:Nat}{F_2:SF}(D_2:Dn P w K mg base k_2 "is_row" ["thing","low","high"] (a0h K 3 F_2) a_2 d_2)(h_2:k_2<=k)(cdv:Value)(A:Around)(outer:List Env)(s:Shared)(H:Hp)(E:XK)(hr:Room k (A.deeper (PyProof.Rows.envOfC "rules_with_place" (fj (top 35)) s.heap.objs.size f cdv))):MSs (cxE P w K mg base ["book","at","wanted"] "rules_with_place" (fj (top 35)) f cdv A outer s H E) (aaq mg E) (qd (top 35)) (mj F_0 F_2):=by
 have SC:=avo;unfold mj
 walk_at "d"
theorem b1u(M:Nm mg):MD P w K mg base f k ["_law_script","_law_cells"] ["_law_script"] "_law_source" (top 37) (SRC.ye):=by
 walk_at "m"
 unfold SRC.ye SRC.vf
 walk_at "d"
theorem b1v(M:Nm mg):MD P w K mg base f k ["_law_left","_law_many","_law_cell","_law_told"] ["_law_left","_law_many"] "_law_draw" (top 38) (SRC.a0o):=by
 walk_at "m"
 unfold SRC.a0o
 walk_at "d"
theorem b1w:MD P w K mg base f k ["_law_some"] [] "_law_signs" (top 39) (SRC.xf):=by
 walk_at "m"
 unfold SRC.xf
 walk_at "d"
theorem b1x(M:Nm mg)(D_23:Dk P w K mg base k "_law_draw" ["_law_left","_law_many"] F_23)(D_24:Dn P w K mg base k_24 "_law_signs" [] (a0h K 0 F_24) a_24 d_24)(h_24:k_24<=k):MD P w K mg base f k ["_law_left","_law_rest","_law_told","_law_k","_law_at"] ["_law_left"] "_law_tongue" (top 40) (SRC.yf F_23 F_24):=by
 walk_at "m"
 unfold SRC.yf SRC.vg
 walk_at "d"
theorem b1y(M:Nm mg)(D_23:Dk P w K mg base k "_law_draw" ["_law_left","_law_many"] F_23):MD P w K mg base f k ["_law_left","_law_tongue_here","_law_rest","_law_told","_law_many","_law_k","_law_at"] ["_law_left","_law_tongue_here"] "_law_ones" (top 41) (DRW.a0p F_23):=by
 walk_at "m"
 unfold DRW.a0p DRW.yx
 walk_at "d"
theorem b1z(M:Nm mg)(D_27:Dk P w K mg base k "_law_weight" ["_law_shape_here"] F_27):MD P w K mg base f k ["_law_shape_here"] ["_law_shape_here"] "_law_weight" (top 42) (DRW.uw F_27):=by
 walk_at "m"
 unfold DRW.uw DRW.qp
 walk_at "d"
theorem b23(M:Nm mg)(D_23:Dk P w K mg base k "_law_draw" ["_law_left","_law_many"] F_23)(D_26:Dk P w K mg base k "_law_ones" ["_law_left","_law_tongue_here"] F_26)(D_28:Dk P w K mg base k "_law_shape" ["_law_left","_law_tongue_here","_law_deep","_law_purse","_law_room"] F_28)(D_27:Dk P w K mg base k "_law_weight" ["_law_shape_here"] F_27):MD P w K mg base f k ["_law_left","_law_tongue_here","_law_deep","_law_purse","_law_room","_law_sort","_law_high","_law_low","_law_parts","_law_k","_law_part"] ["_law_left","_law_tongue_here","_law_deep","_law_purse","_law_room"] "_law_shape" (top 43) (DRW.xg F_23 F_26 F_28 F_27):=by
 walk_at "m"
 unfold DRW.xg DRW.ue
 walk_at "d"
theorem b24(M:Nm mg)(D_23:Dk P w K mg base k "_law_draw" ["_law_left","_law_many"] F_23):MD P w K mg base f k ["_law_left","_law_names","_law_letters","_law_name_here","_law_at","_law_first","_law_tried","_law_letter"] ["_law_left","_law_names"] "_law_name" (top 44) (DRW.xj F_23):=by
 walk_at "m"
 unfold DRW.xj DRW.za DRW.qw DRW.yz
 walk_at "d"
theorem b25(M:Nm mg)(D_23:Dk P w K mg base k "_law_draw" ["_law_left","_law_many"] F_23)(D_29:Dk P w K mg base k "_law_name" ["_law_left","_law_names"] F_29)(D_28:Dk P w K mg base k "_law_shape" ["_law_left","_law_tongue_here","_law_deep","_law_purse","_law_room"] F_28)(D_27:Dk P w K mg base k "_law_weight" ["_law_shape_here"] F_27):MD P w K mg base f k ["_law_left","_law_tongue_here","_law_purse","_law_names","_law_rules","_law_k","_law_deep","_law_shape_here","_law_name_here"] ["_law_left","_law_tongue_here","_law_purse"] "_law_book" (top 45) (DRW.a0q F_23 F_29 F_28 F_27):=by
 walk_at "m"
 unfold DRW.a0q DRW.vh
 walk_at "d"
theorem b26(M:Nm mg):MD P w K mg base f k ["_law_found","_law_one"] ["_law_found"] "_law_row" (top 46) (K16.a02):=by
 walk_at "m"
 unfold K16.a02 K16.km
 walk_at "d"
theorem b27(M:Nm mg):MD P w K mg base f k ["_law_thing","_law_tongue_here"] ["_law_thing","_law_tongue_here"] "_law_is_signs" (top 47) (K16.uf):=by
 walk_at "m"
 unfold K16.uf K16.lq K16.xn
 walk_at "d"
theorem b2a(M:Nm mg)(D_33:Dk P w K mg base k "_law_counted" ["_law_thing","_law_tongue_here","_law_deep"] F_33)(D_32:Dk P w K mg base k "_law_is_signs" ["_law_thing","_law_tongue_here"] F_32)(D_31:Dk P w K mg base k "_law_row" ["_law_found"] F_31):MD P w K mg base f k ["_law_thing","_law_tongue_here","_law_deep","_law_parts","_law_counts"] ["_law_thing","_law_tongue_here","_law_deep"] "_law_counted" (top 48) (K16.vq F_33 F_32 F_31):=by
 walk_at "m"
 unfold K16.vq K16.pq
 walk_at "d"
theorem b2b(M:Nm mg)(D_33:Dk P w K mg base k "_law_counted" ["_law_thing","_law_tongue_here","_law_deep"] F_33)(D_32:Dk P w K mg base k "_law_is_signs" ["_law_thing","_law_tongue_here"] F_32)(D_24:Dn P w K mg base k_24 "_law_signs" [] (a0h K 0 F_24) a_24 d_24)(h_24:k_24<=k):MD P w K mg base f k ["_law_thing","_law_names","_law_rule","_law_strange"] ["_law_thing"] "_law_is_book" (top 49) (K16.vy F_33 F_32 F_24):=by
 walk_at "m"
 unfold K16.vy K16.m8 K16.qb K16.yp
 walk_at "d"
theorem b2c(D_23:Dk P w K mg base k "_law_draw" ["_law_left","_law_many"] F_23):MD P w K mg base f k ["_law_left","_law_many","_law_sort"] ["_law_left","_law_many"] "_law_place" (top 50) (a05 F_23):=by
 walk_at "m"
 unfold a05
 walk_at "d"
theorem b2d(M:Nm mg)(D_23:Dk P w K mg base k "_law_draw" ["_law_left","_law_many"] F_23)(D_29:Dk P w K mg base k "_law_name" ["_law_left","_law_names"] F_29)(D_28:Dk P w K mg base k "_law_shape" ["_law_left","_law_tongue_here","_law_deep","_law_purse","_law_room"] F_28)(D_24:Dn P w K mg base k_24 "_law_signs" [] (a0h K 0 F_24) a_24 d_24)(h_24:k_24<=k):MD P w K mg base f k ["_law_left","_law_book_here","_law_names","_law_name_here","_law_shape_here","_law_sort","_law_odd"] ["_law_left","_law_book_here"] "_law_new_rule" (top 51) (uh F_23 F_29 F_28 F_24):=by
 walk_at "m"
 unfold uh qz
 walk_at "d"
theorem b2e(M:Nm mg)(Z:Xn K mg y_NoBook y_TooHeavy y_NoPlace y_ReachError y_NoShape y_TooMany)(D_20:DnX P w K mg base k_20 "exchanged" ["book","at"] (spX K mg 2 F_20) a_20 d_20)(h_20:k_20<=k)(D_18:DnX P w K mg base k_18 "with_rule" ["book","at","rule"] (spX K mg 3 F_18) a_18 d_18)(h_18:k_18<=k)(D_19:DnX P w K mg base k_19 "without_rule" ["book","at"] (spX K mg 2 F_19) a_19 d_19)(h_19:k_19<=k):MD P w K mg base f k ["_law_deed","_law_book_here","_law_at","_law_rule","_law_found","_law_kind","e"] ["_law_deed","_law_book_here","_law_at","_law_rule"] "_law_said" (top 52) (a2k F_20 F_18 F_19):=md (by walk_at "sc") λSC cdv A outer s H E hr =>
 (a2e (ahr 4 SC.nd agb)
 (a2e (ahr 5 SC.nd agb)
 (a2e (an9 (i:=6) ⟨rfl,Z.g_ReachError,SC.nd,rfl,rfl,⟨rfl,rfl⟩,by decide⟩ (a2p Z)
 (akz (ahs hr.u (aem 0) aga)
 (a7q (i:=4) SC.nd rfl (Or.inl rfl) (a4r D_18 (hr.mono h_18) rfl (ur (aem 1) (ur (aem 2) (ur (aem 3) a6c)))))
 (akz (ahs hr.u (aem 0) aga)
 (a7q (i:=4) SC.nd rfl (Or.inl rfl) (a4r D_19 (hr.mono h_19) rfl (ur (aem 1) (ur (aem 2) a6c))))
 (a7q (i:=4) SC.nd rfl (Or.inl rfl) (a4r D_20 (hr.mono h_20) rfl (ur (aem 1) (ur (aem 2) a6c))))))
 (λa=>(a2e (ahr 5 SC.nd (acx (ur (a5d (i:=6) rfl M.isinstance jd rfl (Or.inl rfl) (zm (v:=.ref y_NoPlace) rfl Z.g_NoPlace rfl) (.inl ⟨_,rfl,rfl⟩) (a7u Z)) (ur (a5d (i:=6) rfl M.isinstance jd rfl (Or.inl rfl) (zm (v:=.ref y_NoBook) rfl Z.g_NoBook rfl) (.inl ⟨_,rfl,rfl⟩) (aah Z)) (ur (a5d (i:=6) rfl M.isinstance jd rfl (Or.inl rfl) (zm (v:=.ref y_TooHeavy) rfl Z.g_TooHeavy rfl) (.inl ⟨_,rfl,rfl⟩) (a6p Z)) a6c)))))
 (a8c (ahr 5 SC.nd (ah0 (aem 5) (acx (ur (ah9 (i:=6) (cs:=[y_NoShape,y_TooMany]) rfl M.isinstance jd rfl (Or.inl rfl) (yj (zm (v:=.ref y_NoShape) rfl Z.g_NoShape rfl) (yj (zm (v:=.ref y_TooMany) rfl Z.g_TooMany rfl) a4y)) (λ_ _ _ q=>q) (a8a (by simp)) (a0b Z)) (ur (a5d (i:=6) rfl M.isinstance jd rfl (Or.inl rfl) (aau (v:=.ty "ValueError") rfl M.ValueError PyProof.Rows.Boot.«ValueError» rfl) (.inr ⟨_,rfl,rfl⟩) (a3y Z)) a6c)))))))))
 (a8c (amn (acx (ur (aem 4) (ur (aem 5) a6c))))))))
theorem b2f(M:Nm mg)(D_34:Dk P w K mg base k "_law_is_book" ["_law_thing"] F_34)(D_31:Dk P w K mg base k "_law_row" ["_law_found"] F_31)(D_27:Dk P w K mg base k "_law_weight" ["_law_shape_here"] F_27):MD P w K mg base f k ["_law_deed","_law_book_here","_law_at","_law_rule","_law_rules","_law_due_here"] ["_law_deed","_law_book_here","_law_at","_law_rule"] "_law_due" (top 53) (a1z F_34 F_31 F_27):=by
 walk_at "m"
 unfold a1z yg
 walk_at "d"
theorem b2g(M:Nm mg)(D_30:Dk P w K mg base k "_law_book" ["_law_left","_law_tongue_here","_law_purse"] F_30)(D_38:Dk P w K mg base k "_law_due" ["_law_deed","_law_book_here","_law_at","_law_rule"] F_38)(D_36:Dk P w K mg base k "_law_new_rule" ["_law_left","_law_book_here"] F_36)(D_35:Dk P w K mg base k "_law_place" ["_law_left","_law_many"] F_35)(D_37:Dk P w K mg base k "_law_said" ["_law_deed","_law_book_here","_law_at","_law_rule"] F_37)(D_22:Dn P w K mg base k_22 "_law_source" ["_law_script"] (a0h K 1 F_22) a_22 d_22)(h_22:k_22<=k)(D_25:Dk P w K mg base k "_law_tongue" ["_law_left"] F_25)(D_20:DnX P w K mg base k_20 "exchanged" ["book","at"] (spX K mg 2 F_20) a_20 d_20)(h_20:k_20<=k)(D_19:DnX P w K mg base k_19 "without_rule" ["book","at"] (spX K mg 2 F_19) a_19 d_19)(h_19:k_19<=k):MD P w K mg base f k ["_law_script","_law_left","_law_book_here","_law_rule","_law_kept","_law_k","_law_at","_law_deed","_law_found","_law_kind"] ["_law_script"] "law" (top 54) (ahq F_30 F_38 F_36 F_35 F_37 F_22 F_25 F_20 F_19):=by
 walk_at "m"
 unfold ahq a3w a5q
 walk_at "d"
end
end K19
namespace MI
open L2
theorem aht(ts:List Str):(Str.join ", " ts).length<=piled ts:=by
 cases ts with
 |nil=>exact bE _
 |cons t ts=>have:=join_length_add (t::ts) (by simp);omega
theorem aai(ts:List Str):(tupleText ts).length<=piled ts+3:=by
 have:=aht ts
 unfold tupleText;rw[eD,eD];have e1:("(" : Str).length=1:=rfl;have e2:(Str.ofString (if ts.length == 1 then ",)" else ")")).length<=2:=by split<;>decide
 omega
theorem abx(ts:List Str):(listText ts).length<=piled ts+2:=by
 have:=aht ts
 rw[listText_eq_join,eD,eD];have e1:("[" : Str).length=1:=rfl;have e2:("]" : Str).length=1:=rfl;omega
end MI
namespace HND
open L2 MI AT
noncomputable def ax9:Str := " !\"#$&'()*+,-./0123456789:;<=>?@ABCDEFGHIJKLMNOPQRSTUVWXYZ[\\]^_`"
noncomputable def axa:Str := "abcdefghijklmnopqrstuvwxyz{|}~\n"
noncomputable def sig:List Nat:=ax9.cps.toList++axa.cps.toList
theorem a8v:sig.length=95:=by decide +kernel
theorem avp:sig.Nodup:=by decide +kernel
def bw:SF:=jw xf 1
theorem lits{h:Hd}:gw (.str ax9) (.str axa) h=.ok (.str (S sig)) h:=by
 rw[<-a2v ax9,<-a2v axa,a8p (by decide +kernel)]
 rfl
theorem a3z:Pu bw 0 [] (.str (S sig)):=by
 refine Pu.of rfl (by simp) (r:=.ok (.str (S sig)) []) ?_ (by rw[je (cj _) (by simp)];rfl) (cj _)
 unfold bw;rw[dm];unfold xf;have e:=@lits [];unfold ax9 axa at e;show toR (gj (jm 0 _) _ [none] [])=_;simp only[xx,jm,sC,a1o,a1e,ju,s2,sV,List.set_cons_zero,e9,bc,e,a7o]
structure Tongue (l:List Nat):Prop where
 lo:1<=l.length
 hi:l.length<=6
 nd:l.Nodup
 sub:∀c∈l,c∈sig
theorem aaj(a r:List Nat)(i:Nat)(c:Nat)(e:r[i]? = some c):List.Perm (a++r) ((a++[c])++(r.take i++r.drop (i+1))):=by
 obtain⟨hi,e⟩:=ae.mp e;have:r=r.take i++c::r.drop (i+1):=by rw[<-e];simp
 rw[c9];refine List.Perm.append_left a ?_;rw[eJ]
 conv=>lhs;rw[this]
 exact List.perm_middle
abbrev bj(i:Nat):D:=.int (i:Nat)
end HND
namespace PAP
open L2 MI AT HND
def Pln:D->Prop
 |.non=>True|.bl _=>True|.int _=>True|.str x=>x.cps.toList.length<=1000|.tup xs=>clos 0 xs|.rol xs=>clos 0 xs|.rod _ xs=>clos 0 xs|_=>False
theorem Pln.clo(p:Pln d):clo 0 d:=by
 cases d<;>first|(simp only[Pln]at p;done)|(simp only[Pln]at p;simpa[MI.clo] using p)|simp[MI.clo]
def isTup:D->Bool|.tup _=>true|_=>false
theorem a6q(p:Pln d):kh [d,.ty "tuple"] h=.ok (.bl (isTup d)) h:=by
 cases d<;>first|(simp only[Pln]at p;done)|simp[kh,amy,tyD,aiy,isTup]
theorem axb(l:List Nat)(h:Hd):aiw (.str (S l)) h=.ok ⟨l.map λc=>.str (S [c]),λ_=>True⟩ h:=by
 show R.ok (⟨a0k (S l),λ_=>True⟩:Itm) _=_;unfold a0k;rw[zb]
theorem a4t(e:f τ h=.ok (.bl false) h1):zp f k τ h=.ok (.bl false) h1:=by unfold zp;rw[e,bc]
theorem ane(bs:List Bool)(h:Hd):aiz [.rol (bs.map D.bl)] h=.ok (.bl (bs.all id)) h:=by
 unfold aiz;simp only[aka]
theorem ahu:∀c∈sig,c<127:=by decide +kernel
theorem a5f(e:f τ h=.ok (.int i) h1):oS f τ h=.ok (some i) h1:=by unfold oS;rw[e];rfl
theorem a5r(e:f τ h=.ok d h1)(e1:lo τ h1=.ok a h2)(e2:hi τ h2=.ok b h3)(e3:ada d a b h3=.ok v h4):a2g f lo hi τ h=.ok v h4:=by
 unfold a2g;rw[e,bc,e1,bc,e2,bc,e3]
theorem b0f(xs:List D)(lo hi:Option Int)(h:Hd):ada (.tup xs) lo hi h=.ok (.tup (a72 xs lo hi)) h:=by
 unfold ada;dsimp only
 split
 .rename_i w;obtain⟨a,b⟩:=w
  congr 2
  unfold a72;rw[a,b,gc,bB (by omega)]
 .rfl
theorem aby(xs:List D)(k:Nat)(h:Hd):ada (.tup xs) none (some (k:Int)) h=.ok (.tup (xs.take k)) h:=by rw[b0f,ab6]
theorem yu(xs:List D)(k:Nat)(h:Hd):ada (.tup xs) (some (k:Int)) none h=.ok (.tup (xs.drop k)) h:=by rw[b0f,a9t]
theorem a0e{xs ys:List D}(z:xs.length+ys.length<=1000000):gw (.tup xs) (.tup ys) h=.ok (.tup (xs++ys)) h:=by
 cases xs with
 |nil=>rfl
 |cons x xs =>
  show(if (x::xs).length+ys.length<=LINE then R.ok (D.tup (x::xs++ys)) h else .no)=_
  rw[ai (dh z)]
theorem a5s:MI.jl [a] h=.ok (.tup [a]) h:=by unfold MI.jl;rw[ai (dh (by simp))]
theorem a7b:MI.jl [] h=.ok (.tup []) h:=by unfold MI.jl;rw[ai (dh (by simp))]
theorem a0u(e:f τ h=.ok d h1)(e2:k τ h1=.ok ds h2):aa f k τ h=.ok (d::ds) h2:=by
 unfold aa;rw[e,bc,e2,bc]
theorem aof(e:k τ h=.ok ds h1)(e2:G ds h1=.ok v h2):sA G k τ h=.ok v h2:=by
 unfold sA;rw[e,bc,e2]
theorem a6r{h h':Hd}(hl:h'.length=h.length)(e:f τ h=.ok (.ref h'.length) (h'++[.lst xs]))(cx:clos h.length xs)(c:∀o∈h',wg h.length o):sZ f τ h=.ok (.rol xs) h':=by
 unfold sZ;rw[e,ade (by omega) (by simp) cx (by rw[<-hl];simpa[hl] using c)]
 rw[<-hl];simp
end PAP
def aoo:=@PAP.aof
def cns:=@PAP.a0u
namespace EVX
open L2 MI
section
variable{i:Nat}{cs:Str->Bool}{fb fs p g:SS}{τ τ1 τ2:Sd}{h h1 h2:Hd}{c:Str}{f:SE}{ka:SA}{ds:List D}{F:SF}{n:Nat}
theorem af0(e:p τ h=.ex c h1):gj p g τ h=.ex c h1:=by unfold gj;rw[e]
theorem abz(e:ka τ h=.ok ds h1)(l:ds.length<=100):a5c c ka τ h=.ex c h1:=by
 unfold a5c;rw[e];show(if ds.length<=LINE then Fl.ex c h1 else .no)=_
 rw[ai (dh (by omega))]
theorem ac0(hn:ds.length=n)(cd:∀x∈ds,MI.clo 0 x)(e:F ds []=.ex c h1):u5 n F ds h=.ex c h:=by
 unfold u5;rw[ai cd,e];exact ai hn
theorem a6s(cd:∀x∈ds,MI.clo 0 x)(e:F ds []=.ok d h1)(p:Pu F n ds d'):u5 n F ds h=.ok d' h:=by
 unfold u5;rw[ai cd,e];exact p h
theorem avq(e:fb τ h=.nx τ1 h1):aq7 i cs fb fs τ h=.nx τ1 h1:=by unfold aq7;rw[e]
theorem avr(e:fb τ h=.ex c h1)(hc:cs c=true)(e2:fs (τ.set i (some (.exc c))) h1=.nx τ2 h2):aq7 i cs fb fs τ h=.nx (τ2.set i none) h2:=by
 unfold aq7;rw[e];show(if cs c=true then _ else _)=_
 rw[ai hc,e2]
theorem alm(e:f τ h=.ex c h1):jm i f τ h=.ex c h1:=by unfold jm;rw[e];rfl
theorem az3(e:f τ h=.ex c h1):ju f τ h=.ex c h1:=by unfold ju;rw[e];rfl
theorem qof{α:Type}{k:Sd->Hd->R α}{x:α}(e:k τ h=.ok x h1):qA k τ h=.ok x h1:=by unfold qA;rw[e];rfl
theorem anf(e:ka τ h=.ok ds h1):sA F ka τ h=F ds h1:=by unfold sA;rw[e];rfl
theorem ahv(e:τ[i]? = some (some (.exc c)))(e2:x c=some b):ah8 i x τ h=.ok (.bl b) h:=by unfold ah8;rw[e];dsimp only;rw[e2]
theorem ang(e:f τ h=.ok (.bl b) h1):a9u f τ h=.ok (.bl (!b)) h1:=by unfold a9u;rw[e];rfl
theorem a0u(e:f τ h=.ok d h1)(e2:ka τ h1=.ok ds h2):aa f ka τ h=.ok (d::ds) h2:=by
 unfold aa;rw[e,bc,e2];rfl
theorem a5s:MI.jl [a] h=.ok (.tup [a]) h:=by unfold MI.jl;rw[ai (dh (by simp))]
theorem a7b:MI.jl [] h=.ok (.tup []) h:=by unfold MI.jl;rw[ai (dh (by simp))]
theorem avs{G:List D->Hd->R D}{f1 f2 f3 f4:SE}{h3 h4 h5:Hd}{a b c d v:D}(e1:f1 τ h=.ok a h1)(e2:f2 τ h1=.ok b h2)(e3:f3 τ h2=.ok c h3)(e4:f4 τ h3=.ok d h4)(e5:G [a,b,c,d] h4=.ok v h5):sA G (aa f1 (aa f2 (aa f3 (aa f4 aq)))) τ h=.ok v h5:=by
 have:aa f1 (aa f2 (aa f3 (aa f4 aq))) τ h=.ok [a,b,c,d] h4:=by unfold aa;rw[e1,bc,e2,bc,e3,bc,e4];rfl
 unfold sA;rw[this,bc,e5]
end
end EVX
namespace HND
open L2 MI AT
structure Table where
 tg:List Nat
 go:List (List Nat)
 ks:List Int
end HND
namespace K20
open L2 MI AT HND EVX
open PAP hiding a0u a5s a7b a6r aof
def Deep:Nat->D->Prop
 |0,d=>Pln d
 |n+1,d=>Pln d/\∀ws,d=.tup ws->ws.length<=1000/\∀x∈ws,Deep n x
theorem Deep.pln{n:Nat}{d:D}(h:Deep n d):Pln d:=by cases n with|zero=>exact h|succ n=>exact h.1
theorem Deep.down{n:Nat}:∀{d:D},Deep (n+1) d->Deep n d:=by
 induction n with
 |zero=>exact λh=>h.1
 |succ n ih=>exact λh=>⟨h.1,λws e=>⟨(h.2 ws e).1,λx hx=>ih ((h.2 ws e).2 x hx)⟩⟩
def isInt:D->Bool|.int _=>true|_=>false
def a3b:D->Bool|.bl _=>true|_=>false
def isStr:D->Bool|.str _=>true|_=>false
section
variable{d:D}{h:Hd}
theorem avt(p:Pln d):kh [d,.ty "int"] h=.ok (.bl (isInt d || a3b d)) h:=by
 cases d<;>first|(simp only[Pln]at p;done)|simp[kh,amy,tyD,aiy,isInt,a3b]
theorem avu(p:Pln d):kh [d,.ty "bool"] h=.ok (.bl (a3b d)) h:=by
 cases d<;>first|(simp only[Pln]at p;done)|simp[kh,amy,tyD,aiy,a3b]
theorem ac1(p:Pln d):kh [d,.ty "str"] h=.ok (.bl (isStr d)) h:=by
 cases d<;>first|(simp only[Pln]at p;done)|simp[kh,amy,tyD,aiy,isStr]
end
theorem ac2{f g k:SE}{τ:Sd}{h:Hd}{a x b:Int}(e1:f τ h=.ok (.int a) h)(e2:g τ h=.ok (.int x) h)(e3:k τ h=.ok (.int b) h):sCh gLe gLe f g k τ h=.ok (.bl (decide (a<=x/\x<=b))) h:=by
 unfold sCh;rw[e1,bc,e2,bc,show gLe (.int a) (.int x) h=.ok (.bl (decide (a<=x))) h from rfl,bc]
 by_cases c:a<=x
 .simp only[c,fg,true_and];rw[e3,bc];rfl
 .simp only[c,eL,false_and]
noncomputable def a4a(lo hi:Int):D->Bool|.int i=>decide (lo<=i/\i<=hi)|_=>false
theorem aqn{lo hi:Int}{d:D}(h:a4a lo hi d=true):∃i,d=.int i/\lo<=i/\i<=hi:=by
 cases d<;>first|(simp[a4a]at h;done)|skip
 rename_i i;simp[a4a]at h;exact⟨i,rfl,h.1,h.2⟩
theorem avv{lo hi:Int}{d:D}(h:isInt d=false):a4a lo hi d=false:=by cases d<;>first|rfl|simp[isInt]at h
theorem ar1{a:D}(ha:MI.clo 0 a):∀x∈[a],MI.clo 0 x:=by intro x hx;rw[aI]at hx;subst hx;exact ha
theorem ar2{a b:D}(ha:MI.clo 0 a)(hb:MI.clo 0 b):∀x∈[a,b],MI.clo 0 x:=by
 intro x hx
 simp only[aV,c8,eF]at hx
 rcases hx with rfl|rfl
 .exact ha
 .exact hb
theorem ar3{a b c:D}(ha:MI.clo 0 a)(hb:MI.clo 0 b)(hc:MI.clo 0 c):∀x∈[a,b,c],MI.clo 0 x:=by
 intro x hx
 rcases aV.mp hx with rfl|hx
 .exact ha
 .exact ar2 hb hc x hx
theorem ar4{a b c e:D}(ha:MI.clo 0 a)(hb:MI.clo 0 b)(hc:MI.clo 0 c)(he:MI.clo 0 e):∀x∈[a,b,c,e],MI.clo 0 x:=by
 intro x hx
 rcases aV.mp hx with rfl|hx
 .exact ha
 .exact ar3 hb hc he x hx
theorem a2a{F:SF}{n:Nat}{ds:List D}{b:Bool}{h':Hd}(hn:ds.length=n)(ca:∀x∈ds,MI.clo 0 x)(e:F ds []=.ok (.bl b) h'):Pu F n ds (.bl b):=Pu.of hn ca e (je (ud _) (by simp)) (ud _)
def m5:SF:=jw zx 1
theorem adq{d:D}(p:Pln d):Pu m5 1 [d] (.bl (isInt d)):=by
 refine a2a rfl (ar1 p.clo) (h':=[]) ?_;unfold m5;rw[dm];show toR (zx [some d] [])=_;unfold zx;have a1:sA kh (aa (sV 0) (aa (sC (.ty "int")) aq)) [some d] []=.ok (.bl (isInt d || a3b d)) []:=kj (au rfl) ckk (avt p)
 have a2:sA kh (aa (sV 0) (aa (sC (.ty "bool")) aq)) [some d] []=.ok (.bl (a3b d)) []:=kj (au rfl) ckk (avu p)
 cases hi:isInt d with
 |true =>
  rw[hi,fV]at a1;have:a3b d=false:=by cases d<;>first|rfl|simp[isInt]at hi
  rw[this]at a2;exact ah toR (fu (a3u a1 (EVX.ang a2)))
 |false =>
  rw[hi,fM]at a1
  cases hb:a3b d with
  |true=>rw[hb]at a1 a2;exact ah toR (fu (a3u a1 (EVX.ang a2)))
  |false=>rw[hb]at a1;exact ah toR (fu (a4t a1))
def jg:SF:=jw (p7 m5) 3
theorem a7v{d:D}(p:Pln d)(lo hi:Int):Pu jg 3 [d,.int lo,.int hi] (.bl (a4a lo hi d)):=by
 refine a2a rfl (ar3 p.clo (bz _) (bz _)) (h':=[]) ?_;unfold jg;rw[dm];show toR (p7 m5 [some d,some (.int lo),some (.int hi)] [])=_;unfold p7;have c:=adq p []
 cases hi':isInt d with
 |true =>
  obtain⟨i,rfl⟩:∃i,d=.int i:=by cases d<;>first|exact⟨_,rfl⟩|simp[isInt]at hi'
  exact ah toR (fu (a3u (m9 (au rfl) c) (ac2 (au rfl) (au rfl) (au rfl))))
 |false =>
  rw[hi']at c;rw[avv hi'];exact ah toR (fu (a4t (m9 (au rfl) c)))
noncomputable def uy(lo hi:Int):D->Bool|.tup xs=>decide (lo<=(xs.length:Int)/\(xs.length:Int)<=hi)|_=>false
theorem len_T(xs:List D)(h:Hd):my [.tup xs] h=.ok (.int (xs.length:Nat)) h:=a6k
def gq:SF:=jw a3s 3
theorem a1b{d:D}(p:Pln d)(lo hi:Int):Pu gq 3 [d,.int lo,.int hi] (.bl (uy lo hi d)):=by
 refine a2a rfl (ar3 p.clo (bz _) (bz _)) (h':=[]) ?_;unfold gq;rw[dm];show toR (a3s [some d,some (.int lo),some (.int hi)] [])=_;unfold a3s;have a1:sA kh (aa (sV 0) (aa (sC (.ty "tuple")) aq)) [some d,some (.int lo),some (.int hi)] []=.ok (.bl (isTup d)) []:=kj (au rfl) ckk (a6q p)
 cases ht:isTup d with
 |true =>
  obtain⟨xs,rfl⟩:∃xs,d=.tup xs:=by cases d<;>first|exact⟨_,rfl⟩|simp[isTup]at ht
  exact ah toR (fu (a3u a1 (ac2 (au rfl) (m9 (au rfl) (len_T xs _)) (au rfl))))
 |false =>
  rw[ht]at a1;have:uy lo hi d=false:=by cases d<;>first|rfl|simp[isTup]at ht
  rw[this];exact ah toR (fu (a4t a1))
theorem adt{fi:SI}{ce:SE}{ix:List Nat}{τ:Sd}{xs:List D}{P:D->Bool}(e:fi τ []=.ok ⟨xs,λ_=>True⟩ [])(ln:xs.length<=1000000)(st:∀x∈xs,a2n t1 ce (frs' ix τ) x []=.ok (.bl (P x)) []) :
  sA aiz (aa (sZ (qi fi t1 ce ix)) aq) τ []=.ok (.bl (xs.all P)) []:=by
 have e':fi τ []=.ok ⟨xs.map (λx=>x),λ_=>True⟩ []:=by rw[da];exact e
 have cz:sZ (qi fi t1 ce ix) τ []=.ok (.rol ((xs.map P).map D.bl)) []:=by
  rw[cK];exact a5i (zy (λx=>x) (λx=>.bl (P x)) xs e' (dh ln) st) (gf λc _=>ud _) (by simp)
 refine m9 cz ?_;rw[ane,dJ];rfl
noncomputable def a8w(l:List Nat):Bool:=decide (1<=l.length/\l.length<=6) && (decide l.Nodup && l.all (λc=>decide (c∈sig)))
noncomputable def a2b:D->Bool|.str x=>a8w x.cps.toList|_=>false
theorem avw(l:List Nat):a2b (.str (S l))=a8w l:=by simp only[a2b,zb]
theorem a6t:∀c:Nat,c<127->(c∈sig↔c=10\/(32<=c/\c<=126/\c≠37)):=by decide +kernel
theorem a8x(c:Nat):c∈sig↔c=10\/(32<=c/\c<=126/\c≠37):=by
 by_cases h:c<127
 .exact a6t c h
 .constructor
  .intro z;exact absurd (ahu c z) h
  .intro z;omega
theorem aln(a b:Nat)(h:Hd):gLe (.str (S [a])) (.str (S [b])) h=.ok (.bl (decide (a<=b))) h:=by
 unfold gLe;have:(S [b]).cps.toList<(S [a]).cps.toList↔b<a:=by
  rw[zb,zb,List.cons_lt_cons_iff];simp
 by_cases c:a<=b
 .rw[aw c];have n:¬ (S [b]).cps.toList<(S [a]).cps.toList:=λz=>by have:=this.mp z;omega
  simp only[n,eL,Bool.not_false]
 .rw[av c];have n:(S [b]).cps.toList<(S [a]).cps.toList:=this.mpr (by omega)
  simp only[n,fg,Bool.not_true]
theorem b0g{a b:List Nat}{h:Hd}:hEq (.str (S a)) (.str (S b)) h=.ok (.bl (decide (a=b))) h:=by rw[alf,aqf]
def ul:SF:=jw a1p 1
theorem ahw(c:Nat):Pu ul 1 [.str (S [c])] (.bl (decide (c∈sig))):=by
 refine a2a rfl (ar1 (cj _)) (h':=[]) ?_;unfold ul;rw[dm];show toR (a1p [some (.str (S [c]))] [])=_;unfold a1p;refine eti (orF (rm (j5 (kj (au rfl) ckk (ac1 (d:=.str (S [c])) (by simp[Pln]))) (di _))) (t2s (m9 (au rfl) (a78 (dh (by simp)))) ckk (a4s rfl))) ?_
 by_cases h10:c=10
 .subst h10;exact(ah toR (jx (ar (ifT (tvc rfl (b0g (b:=[10])))) (fu ckk)))).trans (by rw[aw ((a8x 10).mpr (.inl rfl))];rfl)
 .refine eti (tvc rfl ((b0g (b:=[10])).trans (by rw[av (by simpa using h10)]))) ?_
  have od:aub [.str (S [c])] []=.ok (.int (c:Nat)) []:=by
   unfold aub;dsimp only;rw[ai (by rw[a77];rfl)]
   rfl
  have ch:sCh gLe gLe (sC (.str " ")) (sV 0) (sC (.str "~")) [some (.str (S [c]))] []=.ok (.bl (decide (32<=c/\c<=126))) []:=by
   unfold sCh;rw[a70,bc,au rfl,bc,show gLe (.str " ") (.str (S [c])) []=.ok (.bl (decide (32<=c))) [] from aln 32 c [],bc]
   by_cases z:32<=c
   .simp only[z,fg,true_and];rw[a70,bc];exact aln c 126 []
   .simp only[z,eL,false_and]
  by_cases z:32<=c/\c<=126
  .rw[aw z]at ch;refine etr (fu (a3u ch (jq (m9 (au rfl) od) ckk abr))) ?_;rw[a7o]
   congr 2
   by_cases q:c=37
   .subst q;rw[av (λz=>by have:=(a8x 37).mp z;omega)]
    rfl
   .rw[aw ((a8x c).mpr (.inr ⟨z.1,z.2,q⟩)),dR,bN];omega
  .rw[av z]at ch;refine etr (fu (a4t ch)) ?_;rw[av (λw=>by have:=(a8x c).mp w;omega)]
   rfl
def ig:SF:=jw (n6 ul) 1
theorem adu{c:ST}{τ:Sd}{h h1:Hd}{b:Bool}(e:c τ h=.ok b h1):yh c τ h=.ok (!b) h1:=by cases b;exact a0r e;exact rm e
theorem aak{d:D}(p:Pln d):Pu ig 1 [d] (.bl (a2b d)):=by
 refine a2a rfl (ar1 p.clo) (h':=[]) ?_;unfold ig;rw[dm];show toR (n6 ul [some d] [])=_;unfold n6;have a1:sA kh (aa (sV 0) (aa (sC (.ty "str")) aq)) [some d] []=.ok (.bl (isStr d)) []:=kj (au rfl) ckk (ac1 p)
 cases hs:isStr d with
 |true =>
  obtain⟨x,rfl⟩:∃x,d=.str x:=by cases d<;>first|exact⟨_,rfl⟩|simp[isStr]at hs
  have xl:x.cps.toList.length<=1000:=p;rw[<-a2v x]at a1 ⊢
  generalize x.cps.toList=l at xl a1
  rw[avw];have ln:∀hh,my [.str (S l)] hh=.ok (.int (l.length:Nat)) hh:=λhh=>a78 (dh (by omega))
  have ch:=ac2 (f:=sC (.int 1)) (g:=sA my (aa (sV 0) aq)) (k:=sC (.int 6)) (τ:=[some (.str (S l))]) (h:=[]) ckk (m9 (au rfl) (ln _)) ckk
  by_cases hl:1<=l.length/\l.length<=6
  .rw[aw (by omega)]at ch
   refine eti (orF (rm (j5 a1 (di _))) (rm (tof ch))) ?_;have ls:a2u (.str (S l)) []=.ok (.int ((a5h l).length:Nat)) []:=by
    unfold a2u;dsimp only;rw[ai (by rw[a77];omega)]
   have al:=adt (fi:=sIt (sV 0)) (ce:=u6 ul) (ix:=[]) (τ:=[some (.str (S l))]) (xs:=l.map λc=>.str (S [c])) (P:=λd=>match d with|.str x=>x.cps.toList.all (λc=>decide (c∈sig))|_=>false) (a7t (au rfl) (axb l _)) (by rw[aE];omega) λx hx=>by
    obtain⟨c,_,rfl⟩:=bF.mp hx;rw[yo];refine(m9 (au rfl) (ahw c _)).trans ?_;simp only[zb,bD,cU,cE]
   have ea:(l.map λc=>D.str (S [c])).all (λd=>match d with|.str x=>x.cps.toList.all (λc=>decide (c∈sig))|_=>false)=l.all (λc=>decide (c∈sig)):=by
    rw[dJ]
    congr 1
    funext c
    simp only[Function.comp,zb,bD,cU,cE]
   rw[ea]at al;have eq:hEq (.int ((a5h l).length:Nat)) (.int (l.length:Nat)) []=.ok (.bl (decide l.Nodup)) []:=by
    rw[abq]
    by_cases nd:l.Nodup
    .rw[aw nd,(a9r l).mpr nd,cM]
    .rw[av nd,bN.mpr (λz=>nd ((a9r l).mp (by omega)))]
   have a2:s2 hEq (s1 a2u (sV 0)) (sA my (aa (sV 0) aq)) [some (.str (S l))] []=.ok (.bl (decide l.Nodup)) []:=jq (aar (au rfl) ls) (m9 (au rfl) (ln _)) eq;unfold a8w;rw[aw hl,bM]
   by_cases nd:l.Nodup
   .rw[aw nd]at a2 ⊢;exact ah toR (fu (a3u a2 al))
   .rw[av nd]at a2 ⊢;exact ah toR (fu (a4t a2))
  .rw[av (by omega)]at ch
   unfold a8w;rw[av hl,dC];exact ah toR (jx (ar (ifT (orF (rm (j5 a1 (di _))) (a0r (tof ch)))) (fu ckk)))
 |false =>
  rw[hs]at a1;have:a2b d=false:=by cases d<;>first|rfl|simp[isStr]at hs
  rw[this];exact ah toR (jx (ar (ifT (orT (a0r (j5 a1 (di _))))) (fu ckk)))
theorem axc(neg:Bool)(c:Nat)(t:List Nat)(h:Hd):gIn neg (.str (S [c])) (.str (S t)) h=.ok (.bl (if neg then !decide (c∈t) else decide (c∈t))) h:=by
 cases neg
 .show R.ok (D.bl (decide (c∈(S t).cps.toList))) h=_;rw[zb];rfl
 .show R.ok (D.bl (!decide (c∈(S t).cps.toList))) h=_;rw[zb];rfl
def L(l:List Nat)(r:Nat):Nat:=(l[r]?).getD 0
noncomputable def avx(l:List Nat)(r:Nat):Bool:=decide (L l r∈sig) && !decide (L l r∈l.take r)
theorem aqo(l:List Nat):(List.range l.length).all (avx l)=(decide l.Nodup && l.all (λc=>decide (c∈sig))):=by
 rw[cQ,aO,af,decide_eq_true_iff,aO]
 constructor
 .intro h
  have h':∀r,(hr:r<l.length)->l[r]∈sig/\l[r]∉l.take r:=λr hr=>by
   have:=h r (c6.mpr hr)
   unfold avx L at this;rw[a6 hr]at this;simpa using this
  refine⟨bX.mpr λi j hi hj ij z=>?_,λc hc=>?_⟩
  .exact(h' j hj).2 (fA.mpr ⟨i,by omega,z⟩)
  .obtain⟨i,hi,rfl⟩:=List.getElem_of_mem hc;exact aw (h' i hi).1
 .rintro⟨nd,al⟩ r hr
  rw[c6]at hr;unfold avx L;rw[a6 hr];have a:=al l[r] (bo hr);rw[decide_eq_true_iff]at a;have b:l[r]∉l.take r:=λz=>by
   obtain⟨i,hi,e⟩:=fA.mp z;exact(bX.mp nd) i r (by omega) hr (by omega) e
  simp[a,b]
end K20
namespace EVT
open L2 MI AT HND
section
variable{f g k f1 f2 f3:SE}{ka:SA}{c c1 c2:ST}{τ:Sd}{h h1 h2 h3:Hd}{a b d v:D}{i:Nat}{t u:Bool}{xs ys ds:List D}
theorem az4:aq τ h=.ok [] h:=rfl
theorem b2h:oN τ h=.ok none h:=rfl
theorem PuE(p:Pu F n ds d):j8 false n F ds h=.ok d h:=p h
theorem b2j(p:Dr F n ds o d o'):j8 false n F (.ref 0::ds) (o::h)=.ok d (o'::h):=p 0 (o::h) rfl
theorem a5l(hv:n<xs.length):gIx (.rol xs) (.int (n:Nat)) h=.ok (xs.getD n .non) h:=az1 (by rw[aZ,a6 hv];rfl)
theorem a5m(hv:n<xs.length):gIx (.tup xs) (.int (n:Nat)) h=.ok (xs.getD n .non) h:=aae (by rw[aZ,a6 hv];rfl)
theorem avy:my [.tup xs] h=.ok (bj xs.length) h:=rfl
theorem arj(e:f τ h=R.ok (D.ref h1.length) (h1++[.lst xs]))(hl:h1.length=h.length)(cx:clos 0 xs)(co:∀o∈h1,wg 0 o):sZ f τ h=.ok (.rol xs) h1 :=
 PAP.a6r hl e (wy (bE _) cx) λo ho=>wz (bE _) (co o ho)
theorem avz(e:ka τ h=.ok ds h1)(hl:h1.length=h.length)(cd:clos 0 ds)(co:∀o∈h1,wg 0 o)(z:ds.length<=1000000):sZ (sA MI.wu ka) τ h=.ok (.rol ds) h1:=by
 refine arj ?_ hl cd co;unfold sA;rw[e,bc];unfold MI.wu;exact ai (dh z)
theorem xq(e:f τ h=.ok (.tup xs) h1)(hl:h1.length=h.length)(cd:clos 0 xs)(co:∀o∈h1,wg 0 o):sZ (sA a1l (aa f aq)) τ h=.ok (.rol xs) h1:=arj (m9 e rfl) hl cd co
theorem yq(e:f τ h=.ok (.str (S l)) h1)(hl:h1.length=h.length)(co:∀o∈h1,wg 0 o)(z:l.length<=1000000):sZ (sA a1l (aa f aq)) τ h=.ok (.rol (l.map λc=>.str (S [c]))) h1:=by
 refine arj (m9 e ?_) hl (gf λ_ _=>cj _) co;show(if (S l).length<=LINE then R.ok (D.ref h1.length) (h1++[O.lst (a0k (S l))]) else R.no)=_
 rw[ai (dh (by rw[a77];exact z))]
 unfold a0k;rw[zb]
theorem a1f(e1:f τ h=.ok (.rol xs) h1)(e2:g τ h1=.ok (.rol ys) h2)(hl:h2.length=h.length)(c1:clos 0 xs)(c2:clos 0 ys)(co:∀o∈h2,wg 0 o)(z:xs.length+ys.length<=1000000):sZ (s2 gw f g) τ h=.ok (.rol (xs++ys)) h2:=by
 refine arj (jq e1 e2 ?_) hl (iy.mpr λx hx=>(bG.mp hx).elim (iy.mp c1 x) (iy.mp c2 x)) co;rw[agz (xs:=xs) (ys:=ys) rfl rfl,ai (dh z)]
theorem a1g{k:Int}(e1:f τ h=.ok (.rol xs) h1)(e2:g τ h1=.ok (.int k) h2)(hl:h2.length=h.length)(c1:clos 0 xs)(co:∀o∈h2,wg 0 o)(z:xs.length*k.toNat<=1000000)(zn : -1000000<=k/\k<=1000000):sZ (s2 yw f g) τ h=.ok (.rol (List.replicate k.toNat xs).flatten) h2:=by
 refine arj (jq e1 e2 ?_) hl (iy.mpr λx hx=>?_) co
 .have:yw (.rol xs) (.int k) h2=if (-(2^63)<=k/\k<2^63)/\xs.length*k.toNat<=LINE then .ok (.ref h2.length) (h2++[.lst (List.replicate k.toNat xs).flatten]) else .no:=rfl
  rw[this,ai ⟨by omega,dh z⟩]
 .obtain⟨l,hl,hx⟩:=eO.mp hx;rw[(List.mem_replicate.mp hl).2]at hx;exact iy.mp c1 x hx
theorem a0v(co:∀o∈h,wg 0 o):sZ aeq τ h=.ok (.rod [] []) h:=by
 unfold sZ;show aa2 h.length (.ok (.ref h.length) (h++[.dK []]))=_;rw[abl (d':=.rod [] []) ?_ ?_]
 .simp
 .unfold FU a6f;rw[aL (by simp only[MI.clo];omega)]
  simp[a1h]
 .simp only[List.take_left'];exact λo ho=>wz (bE _) (co o ho)
theorem yr:(List.replicate n xs).flatten.length=n*xs.length:=by simp
theorem p6(c1:clos i xs)(c2:clos i ys):clos i (xs++ys):=iy.mpr λx hx=>(bG.mp hx).elim (iy.mp c1 x) (iy.mp c2 x)
theorem nj(c:clos i xs):clos i (xs.take n):=iy.mpr λx hx=>iy.mp c x (eT hx)
theorem nq(c:clos i xs):clos i (xs.drop n):=iy.mpr λx hx=>iy.mp c x (List.mem_of_mem_drop hx)
theorem um(c:clos i xs):clos i (List.replicate n xs).flatten:=iy.mpr λx hx=>by
 obtain⟨l,hl,hx⟩:=eO.mp hx;rw[(List.mem_replicate.mp hl).2]at hx;exact iy.mp c x hx
theorem qg(c:clos i xs):clo i (xs.getD n .non):=by
 rw[aZ]
 cases e:xs[n]? with
 |none=>exact qj
 |some x=>exact iy.mp c x (bq e)
theorem uo:clo i (.rod [] []):=by simp[clo,clos]
theorem aqp:∀u∈([]:List O),wg 0 u:=λu hu=>by cases hu
theorem vz(c:wg 0 o):∀u∈[o],wg 0 u:=λu hu=>by rw[aI]at hu;subst hu;exact c
end
noncomputable def wth(ws:List D)(k:Nat)(d:D):List D:=ws.take k++[d]++ws.drop (k+1)
theorem uq(c:clos i ws)(cd:clo i d):clos i (wth ws k d):=p6 (p6 (nj c) (ak cd bx)) (nq c)
end EVT
def zds:=@EVT.avz
def ltn:=@EVT.avy
def onn:=@EVT.b2h
def drz:=@EVT.b2j
def nlc:=@EVT.aqp
def nlo:=@EVT.az4
namespace K16
open L2 MI AT HND EVX
open K20 (a4a uy a2b isInt isStr)
theorem ix0:gIx (.tup (a::xs)) (.int 0) h=.ok a h:=aae (j:=0) rfl
theorem ix1:gIx (.tup (a::b::xs)) (.int 1) h=.ok b h:=aae (j:=1) rfl
theorem ix2:gIx (.tup (a::b::c::xs)) (.int 2) h=.ok c h:=aae (j:=2) rfl
theorem ix3:gIx (.tup (a::b::c::d::xs)) (.int 3) h=.ok d h:=aae (j:=3) rfl
theorem b0h(x y:Str):hEq (.str x) (.str y) h=.ok (.bl (x == y)) h:=alf x y
theorem a7w{x y:Str}{r:List D}{τ:Sd}{h:Hd}:sT (s2 hEq (s2 gIx (sV 0) (sI 0)) (sC (.str y))) (some (.tup (.str x::r))::τ) h=.ok (x == y) h:=t2s (mz rfl ix0) ckk (b0h x y)
theorem ark{xs:List D}{τ:Sd}{h:Hd}(n:Nat):s2 hEq (sA my (aa (sV 0) aq)) (sC (bj n)) (some (.tup xs)::τ) h=.ok (.bl (decide (xs.length=n))) h:=by
 refine jq (m9 (au rfl) ltn) ckk ?_
 by_cases e:xs.length=n
 .rw[aw e];exact vm (by rw[e])
 .rw[av e];exact ux (by omega)
noncomputable def alo(a b:D):Bool:=a4a 0 4 b && (match b with|.int j=>a4a 0 j a|_=>false)
def ut:SF:=jw (a00 K20.jg) 2
theorem ahx{a b:D}(pa:PAP.Pln a)(pb:PAP.Pln b):Pu ut 2 [a,b] (.bl (alo a b)):=by
 refine K20.a2a rfl (K20.ar2 pa.clo pb.clo) (h':=[]) ?_;unfold ut;rw[dm];show toR (a00 K20.jg [some a,some b] [])=_;unfold a00 alo;have e1:=K20.a7v pb 0 4
 cases hn:a4a 0 4 b with
 |false =>
  rw[hn]at e1;exact ah toR (fu (PAP.a4t (a3a (au rfl) ckk ckk (e1 _))))
 |true =>
  rw[hn]at e1;obtain⟨j,rfl,_⟩:=K20.aqn hn;have e2:=K20.a7v pa 0 j;exact ah toR (fu (a3u (a3a (au rfl) ckk ckk (e1 _)) (a3a (au rfl) ckk (au rfl) (e2 _))))
noncomputable def jo:D->Bool
 |.tup [.str x,y]=>if x == "one" then a2b y else if x == "row" then uy 0 6 y else if x == "either" then uy 1 6 y else x == "many"
 |.tup [.str x,_,a,b] => !(x == "one") && (!(x == "row") && (!(x == "either") && (!(x == "many") && (x == "times" && alo a b))))
 |_=>false
def qt:SF:=jw (a1q ut K20.gq K20.ig) 1
theorem alp{d:D}(p:K20.Deep 1 d):Pu qt 1 [d] (.bl (jo d)):=by
 refine K20.a2a rfl (K20.ar1 p.pln.clo) (h':=[]) ?_;have row:=K20.a1b p.pln 2 4;unfold qt;rw[dm];show toR (a1q ut K20.gq K20.ig [some d] [])=_;unfold a1q
 cases hl:uy 2 4 d with
 |false =>
  rw[hl]at row;have e:jo d=false:=by
   unfold jo
   split
   .simp[uy]at hl
   .simp[uy]at hl
   .rfl
  rw[e];exact ah toR (jx (ar (ifT (orT (a0r (j5 (a3a (au rfl) ckk ckk (row _)) (di _))))) (fu ckk)))
 |true =>
  rw[hl]at row;obtain⟨xs,rfl⟩:∃xs,d=.tup xs:=by cases d<;>first|exact⟨_,rfl⟩|simp[uy]at hl
  have hl:2<=xs.length/\xs.length<=4:=by have:=bI hl;omega
  have pe:∀x∈xs,PAP.Pln x:=λx hx=>(p.2 xs rfl).2 x hx;obtain⟨t,y,r,rfl⟩:∃t y r,xs=t::y::r:=by
   match xs,hl with
   |t::y::r,_=>exact⟨t,y,r,rfl⟩
   |[_],h=>simp at h
   |[],h=>simp at h
  have ist:kh [t,.ty "str"] []=.ok (.bl (isStr t)) []:=K20.ac1 (pe t (by simp))
  cases ht:isStr t with
  |false =>
   rw[ht]at ist;have e:jo (.tup (t::y::r))=false:=by
    unfold jo
    split
    .rename_i h;injection h with h;injection h with h1 h2;subst h1;simp[isStr]at ht
    .rename_i h;injection h with h;injection h with h1 h2;subst h1;simp[isStr]at ht
    .rfl
   rw[e];exact ah toR (jx (ar (ifT (orF (rm (j5 (a3a (au rfl) ckk ckk (row _)) (di _))) (a0r (j5 (kj (mz rfl ix0) ckk ist) (di _))))) (fu ckk)))
  |true =>
   rw[ht]at ist;obtain⟨x,rfl⟩:∃x,t=.str x:=by cases t<;>first|exact⟨_,rfl⟩|simp[isStr]at ht
   refine eti (orF (rm (j5 (a3a (au rfl) ckk ckk (row _)) (di _))) (rm (j5 (kj (mz rfl ix0) ckk ist) (di _)))) ?_;have py:=pe y (by simp)
   have l2:s2 hEq (sA my (aa (sV 0) aq)) (sI 2) [some (.tup (.str x::y::r))] []=.ok (.bl (decide (r=[]))) []:=by
    have:=ark (xs:=.str x::y::r) (τ:=[]) (h:=[]) 2
    refine this.trans ?_
    congr 2
    cases r<;>simp
   have y1:s2 gIx (sV 0) (sI 1) [some (.tup (.str x::y::r))] []=.ok y []:=mz rfl ix1;have two:∀{f:SE} {b:Bool},(f [some (.tup (.str x::y::r))] []=.ok (.bl b) [])->zp (s2 hEq (sA my (aa (sV 0) aq)) (sI 2)) f [some (.tup (.str x::y::r))] []=.ok (.bl (decide (r=[]) && b)) []:=λ{f b} e=>by
    by_cases hr:r=[]
    .rw[aw hr]at l2 ⊢;exact a3u l2 (by rw[e];rfl)
    .rw[av hr]at l2 ⊢;exact PAP.a4t l2
   have rr:r.length<=2:=by simp at hl;omega
   by_cases h1:(x == "one")=true
   .refine ah toR (jx (ar (ifT (h1 ▸ a7w)) ?_));rw[fu (two (m9 y1 (K20.aak py _)))];have:jo (.tup (.str x::y::r))=(decide (r=[]) && a2b y):=by
     match r,rr with
     |[],_=>simp[jo,h1]
     |[_],_=>simp[jo]
     |[_,_],_=>simp[jo,h1]
    rw[this]
   .have h1:(x == "one")=false:=by simpa using h1
    refine eti (h1 ▸ a7w) ?_
    by_cases h2:(x == "row")=true
    .refine ah toR (jx (ar (ifT (h2 ▸ a7w)) ?_));rw[fu (two (a3a y1 ckk ckk (K20.a1b py 0 6 _)))];have:jo (.tup (.str x::y::r))=(decide (r=[]) && uy 0 6 y):=by
      match r,rr with
      |[],_=>simp[jo,h1,h2]
      |[_],_=>simp[jo]
      |[_,_],_=>simp[jo,h2]
     rw[this]
    .have h2:(x == "row")=false:=by simpa using h2
     refine eti (h2 ▸ a7w) ?_
     by_cases h3:(x == "either")=true
     .refine ah toR (jx (ar (ifT (h3 ▸ a7w)) ?_));rw[fu (two (a3a y1 ckk ckk (K20.a1b py 1 6 _)))];have:jo (.tup (.str x::y::r))=(decide (r=[]) && uy 1 6 y):=by
       match r,rr with
       |[],_=>simp[jo,h1,h2,h3]
       |[_],_=>simp[jo]
       |[_,_],_=>simp[jo,h3]
      rw[this]
     .have h3:(x == "either")=false:=by simpa using h3
      refine eti (h3 ▸ a7w) ?_
      by_cases h4:(x == "many")=true
      .refine ah toR (jx (ar (ifT (h4 ▸ a7w)) ?_));rw[fu l2];have:jo (.tup (.str x::y::r))=decide (r=[]):=by
        match r,rr with
        |[],_=>simp[jo,h1,h2,h3,h4]
        |[_],_=>simp[jo]
        |[_,_],_=>simp[jo,h4]
       rw[this]
      .have h4:(x == "many")=false:=by simpa using h4
       refine eti (h4 ▸ a7w) ?_;have tb:s2 hEq (s2 gIx (sV 0) (sI 0)) (sC (.str "times")) [some (.tup (.str x::y::r))] []=.ok (.bl (x == "times")) []:=jq (mz rfl ix0) ckk (b0h _ _);have l4:=ark (xs:=.str x::y::r) (τ:=[]) (h:=[]) 4
       match r,rr with
       |[],_ =>
        have:jo (.tup [.str x,y])=false:=by simp[jo,h1,h2,h3,h4]
        rw[this]
        cases hx:(x == "times") with
        |false=>rw[hx]at tb;exact ah toR (fu (PAP.a4t tb))
        |true=>rw[hx]at tb;exact ah toR (fu (a3u tb (PAP.a4t l4)))
       |[a],_ =>
        have:jo (.tup [.str x,y,a])=false:=by simp[jo]
        rw[this]
        cases hx:(x == "times") with
        |false=>rw[hx]at tb;exact ah toR (fu (PAP.a4t tb))
        |true=>rw[hx]at tb;exact ah toR (fu (a3u tb (PAP.a4t l4)))
       |[a,b],_ =>
        have:jo (.tup [.str x,y,a,b])=(x == "times" && alo a b):=by simp[jo,h1,h2,h3,h4]
        rw[this]
        cases hx:(x == "times") with
        |false=>rw[hx]at tb;exact ah toR (fu (PAP.a4t tb))
        |true =>
         rw[hx]at tb;exact ah toR (fu (a3u tb (a3u l4 (kj (mz rfl ix2) (mz rfl ix3) (ahx (pe a (by simp)) (pe b (by simp)) _)))))
end K16
namespace K16
open L2 MI AT HND EVX
open K20 (a4a uy a2b isInt isStr Deep)
noncomputable def inT:D->List D
 |.tup (.str x::y::_)=>if x == "one" then [] else if x == "row" || x == "either" then (match y with|.tup ps=>ps|_=>[]) else [y]
 |_=>[]
theorem a0c{x:Str}{y:D}{r:List D}:inT (.tup (.str x::y::r))=if x == "one" then [] else if x == "row" || x == "either" then (match y with|.tup ps=>ps|_=>[]) else [y]:=rfl
noncomputable def pcl(f:Nat->D->Nat)(m:Nat):List D->Nat->Nat
 |[],c=>c
 |x::xs,c=>if f (m-c) x=0 then 0 else pcl f m xs (c+f (m-c) x)
noncomputable def pc:Nat->Nat->D->Nat
 |0,_,_=>0
 |d+1,m,t=>if m=0\/jo t=false then 0 else pcl (pc d) m (inT t) 1
theorem anh{f:Nat->D->Nat}{m:Nat}(h:∀n x,f n x<=n):∀(xs:List D) (c:Nat),c<=m->pcl f m xs c<=m
 |[],c,hc=>hc
 |x::xs,c,hc=>by
  rw[pcl]
  split
  .omega
  .exact anh h xs _ (by have:=h (m-c) x;omega)
theorem aw0:∀(d m:Nat) (t:D),pc d m t<=m
 |0,m,t=>bE _
 |d+1,m,t=>by
  rw[pc]
  split
  .omega
  .rename_i h;exact anh (aw0 d) _ _ (by have:m≠0:=λz=>h (.inl z);omega)
theorem a2l{t:D}(h:jo t=true):∃x y r,t=.tup (.str x::y::r)/\(((x == "row")=true\/(x == "either")=true)->∃ps,y=.tup ps/\ps.length<=6):=by
 unfold jo at h
 split at h
 .rename_i x y;refine⟨x,y,[],rfl,λe=>?_⟩;have no:∀z:Str,(x == z)=true->x=z:=λz q=>by simpa using q
  rcases e with e|e
  .have:(x == "one")=false:=by rw[no _ e];decide +kernel
   rw[this,e]at h;simp only[c4,dQ,dB]at h
   cases y<;>first|(simp[uy]at h;done)|skip
   rename_i ps;exact⟨ps,rfl,by have:=bI h;omega⟩
  .have h1:(x == "one")=false:=by rw[no _ e];decide +kernel
   have h2:(x == "row")=false:=by rw[no _ e];decide +kernel
   rw[h1,h2,e]at h;simp only[c4,dQ,dB]at h
   cases y<;>first|(simp[uy]at h;done)|skip
   rename_i ps;exact⟨ps,rfl,by have:=bI h;omega⟩
 .rename_i x y a b;refine⟨x,y,[a,b],rfl,λe=>?_⟩
  rcases e with e|e<;>simp[e]at h
 .simp at h
theorem a4u{n:Nat}{t p:D}(k:Deep (n+2) t)(h:jo t=true)(hp:p∈inT t):Deep n p:=by
 obtain⟨x,y,r,rfl,ys⟩:=a2l h;have ky:=(k.2 _ rfl).2 y (by simp)
 rw[a0c]at hp
 split at hp
 .simp at hp
 .split at hp
  .rename_i e;obtain⟨ps,rfl,_⟩:=ys (by simpa[cR] using e)
   exact(ky.2 _ rfl).2 p hp
  .rw[aI.mp hp];exact ky.down
theorem ahy{t:D}(h:jo t=true):(inT t).length<=6:=by
 obtain⟨x,y,r,rfl,ys⟩:=a2l h;rw[a0c]
 split
 .simp
 .split
  .rename_i e;obtain⟨ps,rfl,l⟩:=ys (by simpa[cR] using e)
   exact l
  .simp
theorem aw1{t:D}(p:Deep 2 t)(h:jo t=true):clos 0 (inT t):=iy.mpr λx hx=>(a4u (n:=0) p h hx).pln.clo
def jf:SF:=jw a6o 1
theorem a6u{t:D}(p:Deep 2 t)(h:jo t=true):Pu jf 1 [t] (.tup (inT t)):=by
 have c:=gh (aw1 p h);obtain⟨x,y,r,rfl,ys⟩:=a2l h;refine Pu.of rfl (K20.ar1 p.pln.clo) (r:=.ok (.tup (inT (.tup (.str x::y::r)))) []) ?_ (je c (by simp)) c
 unfold jf;rw[dm];show toR (a6o [some (.tup (.str x::y::r))] [])=_;unfold a6o;rw[a0c]
 by_cases h1:(x == "one")=true
 .rw[ai h1];refine ah toR (jx (ar (ifT (h1 ▸ a7w)) ?_));exact fu (ax7 PAP.a7b)
 .have h1':(x == "one")=false:=by simpa using h1
  rw[aL h1];refine eti (h1' ▸ a7w) ?_
  by_cases h2:(x == "row")=true
  .obtain⟨ps,rfl,_⟩:=ys (.inl h2);rw[h2,fV,ai rfl];refine ah toR (jx (ar (ifT (orT (h2 ▸ a7w))) ?_));exact fu (mz rfl ix1)
  .have h2':(x == "row")=false:=by simpa using h2
   by_cases h3:(x == "either")=true
   .obtain⟨ps,rfl,_⟩:=ys (.inr h3);rw[h3,Bool.or_true,ai rfl];refine ah toR (jx (ar (ifT (orF (h2' ▸ a7w) (h3 ▸ a7w))) ?_));exact fu (mz rfl ix1)
   .have h3':(x == "either")=false:=by simpa using h3
    rw[h2',h3',eU,aL aT];refine eti (orF (h2' ▸ a7w) (h3' ▸ a7w)) ?_;exact ah toR (fu (m9 (mz rfl ix1) PAP.a5s))
def ie:Nat->SF
 |0=>λ_ _=>.no
 |n+1=>jw (vp jf qt (ie n)) 6
theorem az5{a b:Nat}{h:Hd}(l:b<=a):MI.a4e (bj a) (bj b) h=.ok (bj (a-b)) h:=by
 rw[vo];exact ah (λz=>R.ok (D.int z) h) (by omega)
theorem adv(xs:List D)(h:Hd):aiw (.tup xs) h=.ok ⟨xs,λ_=>True⟩ h:=rfl
theorem ac3{f:Nat->D->Nat}{m:Nat}:∀(a b:List D) (c k:Nat),pcl f m a c=k->k≠0->pcl f m (a++b) c=pcl f m b k
 |[],b,c,k,h,_=>by rw[pcl]at h;subst h;rfl
 |x::a,b,c,k,h,hk=>by
  rw[pcl]at h;rw[eP,pcl]
  split at h
  .exact absurd h.symm hk
  .rename_i q;rw[aL q];exact ac3 a b _ k h hk
theorem aal:∀{n d m:Nat} {t:D},Deep (2*d) t->d<n->Pu (ie n) 3 [t,bj d,bj m] (bj (pc d m t))
 |0,d,m,t,k,h=>absurd h (by omega)
 |n+1,d,m,t,k,h=>by
  refine Pu.of rfl (K20.ar3 k.pln.clo (bz _) (bz _)) (r:=.ok (bj (pc d m t)) []) ?_ (je (bz _) (by simp)) (bz _)
  rw[ie,dm];show toR (vp jf qt (ie n) [some t,some (bj d),some (bj m),none,none,none] [])=_;unfold vp
  cases d with
  |zero=>exact ah toR (jx (ar (ifT (orT (tvc rfl (aas (by simp))))) (fu ckk)))
  |succ d =>
   have k2:Deep (2*d+2) t:=k;have dn:∀{a b:Nat} {u:D},Deep (a+b) u->Deep a u:=λ{a b u} q=>by
    induction b with
    |zero=>exact q
    |succ b ihb=>exact ihb q.down
   have kf:Deep 1 t:=dn (a:=1) (b:=2*d+1) (by rwa[eH 1])
   have k3:Deep 2 t:=dn (a:=2) (b:=2*d) (by rwa[eH 2])
   have fo:=alp kf;rw[pc]
   by_cases m0:m=0
   .rw[ai (.inl m0)];exact ah toR (jx (ar (ifT (orF (tvc rfl (a8u (by omega))) (orT (tvc rfl (aas (by omega)))))) (fu ckk)))
   .cases hf:jo t with
    |false =>
     rw[hf]at fo;rw[ai (.inr rfl)];exact ah toR (jx (ar (ifT (orF (tvc rfl (a8u (by omega))) (orF (tvc rfl (a8u (by omega))) (a0r (j5 (m9 (au rfl) (fo _)) (di _)))))) (fu ckk)))
    |true =>
     rw[hf]at fo;rw[aL (by simp[m0])]
     have inn:=a6u k3 hf;refine eti (orF (tvc rfl (a8u (by omega))) (orF (tvc rfl (a8u (by omega))) (rm (j5 (m9 (au rfl) (fo _)) (di _))))) ?_
     refine etr (jr ckk) ?_;refine etr (a79 (a7t (m9 (au rfl) (inn _)) (adv _ _))) ?_;have lp:=a0z (g:=kN 4) (b:=p8 jf qt (ie n)) (λx:D=>x)
      (λpre τ hh=>∃(c:Nat) (a b:Option D),τ=[some t,some (bj (d+1)),some (bj m),some (bj c),a,b]/\hh=[]/\c<=m/\c≠0/\pcl (pc d) m pre 1=c)
      (λv hh=>v=.int 0/\hh=[]/\pcl (pc d) m (inT t) 1=0)
      (inT t) [] [some t,some (bj (d+1)),some (bj m),some (.int 1),none,none] [] ?_ ⟨1,none,none,rfl,rfl,by omega,by omega,rfl⟩
     .rw[da]at lp
      rcases lp with⟨τ',h',e',c,a,b,rfl,rfl,_,_,pe⟩|⟨v,h',e',rfl,rfl,pe⟩
      .refine ar (ah (λz=>toR (thn z _)) e') ?_;rw[bR]at pe;rw[a1e,pe];exact ah toR (fu (au rfl))
      .refine ar (ah (λz=>toR (thn z _)) e') ?_;rw[a6i,pe];rfl
     .rintro pre x post τ hh all ⟨c,a,b,rfl,rfl,cm,c0,pe⟩
      rw[bR]at all;have xm:x∈inT t:=by rw[all];simp
      have ih:=aal (n:=n) (d:=d) (m:=m-c) (a4u (n:=2*d) k2 hf xm) (by omega)
      refine⟨_,_,rfl,?_⟩;have sx:pcl (pc d) m (pre++x::post) 1=pcl (pc d) m (x::post) c:=ac3 _ _ _ _ pe c0;have st:∀g:SS,gj (jm 5 (sA (j8 false 3 (ie n)) (aa (sV 4) (aa (s2 MI.a4e (sV 1) (sI 1)) (aa (s2 MI.a4e (sV 2) (sV 3)) aq))))) g [some t,some (bj (d+1)),some (bj m),some (bj c),some x,b] []=g [some t,some (bj (d+1)),some (bj m),some (bj c),some x,some (bj (pc d (m-c) x))] []:=λg =>
       jr (a3a (au rfl) (mz rfl (az5 (a:=d+1) (b:=1) (by omega))) (jq (au rfl) (au rfl) (az5 cm)) (ih _))
      by_cases z:pc d (m-c) x=0
      .refine .inr ⟨.int 0,[],?_,rfl,rfl,?_⟩
       .unfold p8;refine ar (st _) ?_;exact jx (ar (ifT (tvc rfl (vm (by omega)))) (fu ckk))
       .rw[all,sx,pcl,ai z]
      .refine .inl ⟨[some t,some (bj (d+1)),some (bj m),some (bj (c+pc d (m-c) x)),some x,some (bj (pc d (m-c) x))],[],?_,c+pc d (m-c) x,_,_,rfl,rfl,by have:=aw0 d (m-c) x;omega,by omega,?_⟩
       .unfold p8;refine ar (st _) ?_;refine ar (ifN (tvc rfl (ux (by omega)))) ?_
        refine ar (abv rfl (au rfl) a2x) ?_;rfl
       .have:=ac3 (f:=pc d) (m:=m) pre [x] 1 c pe c0
        rw[this,pcl,aL z,pcl]
def aj2(t:D):Bool:=decide (0<pc 5 24 t)
def lr:SF:=jw (a0s (ie 6)) 1
theorem ahz{t:D}(k:Deep 10 t):Pu lr 1 [t] (.bl (aj2 t)):=by
 refine K20.a2a rfl (K20.ar1 k.pln.clo) (h':=[]) ?_;unfold lr;rw[dm];show toR (a0s (ie 6) [some t] [])=_;unfold a0s;have p:Pu (ie 6) 3 [t,.int 5,.int 24] (bj (pc 5 24 t)):=aal (n:=6) (d:=5) (m:=24) k (by decide)
 refine ah toR (fu (jq (a3a (au rfl) ckk ckk (p _)) ckk ?_));unfold aj2
 by_cases z:0<pc 5 24 t
 .rw[aw z];exact ado (by omega)
 .rw[av z];exact adp (by omega)
noncomputable def a3c(c:Nat):Bool:=decide (97<=c) && decide (c<=122)
noncomputable def ani(l:List Nat):Bool:=decide (1<=l.length/\l.length<=8) && l.all a3c
noncomputable def ai0:D->Bool|.str x=>ani x.cps.toList|_=>false
theorem aw2(l:List Nat):ai0 (.str (S l))=ani l:=by simp only[ai0,zb]
theorem aw3(c:Nat)(τ:Sd)(h:Hd):sCh gLe gLe (sC (.str "a")) (sV 0) (sC (.str "z")) (some (.str (S [c]))::τ) h=.ok (.bl (a3c c)) h:=by
 have e1:gLe (.str "a") (.str (S [c])) h=.ok (.bl (decide (97<=c))) h:=K20.aln 97 c h;have e2:gLe (.str (S [c])) (.str "z") h=.ok (.bl (decide (c<=122))) h:=K20.aln c 122 h;unfold sCh a3c;rw[a70,bc,au rfl,bc,e1,bc]
 cases decide (97<=c) with
 |true =>
  dsimp only;rw[a70,bc,e2,bM]
 |false=>rfl
def nu:SF:=jw a1y 1
theorem alq{d:D}(p:PAP.Pln d):Pu nu 1 [d] (.bl (ai0 d)):=by
 refine K20.a2a rfl (K20.ar1 p.clo) (h':=[]) ?_;unfold nu;rw[dm];show toR (a1y [some d] [])=_;unfold a1y;have a1:sA kh (aa (sV 0) (aa (sC (.ty "str")) aq)) [some d] []=.ok (.bl (isStr d)) []:=kj (au rfl) ckk (K20.ac1 p)
 cases hs:isStr d with
 |true =>
  obtain⟨x,rfl⟩:∃x,d=.str x:=by cases d<;>first|exact⟨_,rfl⟩|simp[isStr]at hs
  rw[hs]at a1;have xl:x.cps.toList.length<=1000:=p;rw[<-a2v x]at a1 ⊢
  generalize x.cps.toList=l at xl a1
  rw[aw2];have ln:∀hh,my [.str (S l)] hh=.ok (.int (l.length:Nat)) hh:=λhh=>a78 (dh (by omega))
  have ch:=K20.ac2 (f:=sC (.int 1)) (g:=sA my (aa (sV 0) aq)) (k:=sC (.int 8)) (τ:=[some (.str (S l))]) (h:=[]) ckk (m9 (au rfl) (ln _)) ckk
  by_cases hl:1<=l.length/\l.length<=8
  .rw[aw (by omega)]at ch
   refine eti (orF (rm (j5 a1 (di _))) (rm (tof ch))) ?_;have al:=K20.adt (fi:=sIt (sV 0)) (ce:=a1x) (ix:=[]) (τ:=[some (.str (S l))]) (xs:=l.map λc=>.str (S [c])) (P:=λd=>match d with|.str x=>x.cps.toList.all a3c|_=>false) (a7t (au rfl) (PAP.axb l _)) (by rw[aE];omega) λx hx=>by
    obtain⟨c,_,rfl⟩:=bF.mp hx;rw[yo];refine(aw3 c _ _).trans ?_;simp only[zb,bD,cU,cE]
   have ea:(l.map λc=>D.str (S [c])).all (λd=>match d with|.str x=>x.cps.toList.all a3c|_=>false)=l.all a3c:=by
    rw[dJ]
    congr 1
    funext c
    simp only[Function.comp,zb,bD,cU,cE]
   rw[ea]at al;unfold ani;rw[aw hl,bM];exact ah toR (fu al)
  .rw[av (by omega)]at ch
   unfold ani;rw[av hl,dC];exact ah toR (jx (ar (ifT (orF (rm (j5 a1 (di _))) (a0r (tof ch)))) (fu ckk)))
 |false =>
  rw[hs]at a1;have:ai0 d=false:=by cases d<;>first|rfl|simp[isStr]at hs
  rw[this];exact ah toR (jx (ar (ifT (orT (a0r (j5 a1 (di _))))) (fu ckk)))
def Shp:Nat->D->Prop
 |0,_=>False
 |d+1,t=>jo t=true/\∀x∈inT t,Shp d x
theorem ai1{f:Nat->D->Nat}{m:Nat}:∀{xs:List D} {c:Nat},c≠0->pcl f m xs c≠0->∀x∈xs,∃n,f n x≠0
 |y::ys,c,hc,h,x,hx=>by
  rw[pcl]at h
  split at h
  .exact absurd rfl h
  .rename_i q
   rcases aV.mp hx with rfl|hx
   .exact⟨_,q⟩
   .exact ai1 (by omega) h x hx
theorem anj:∀{d m:Nat} {t:D},pc d m t≠0->Shp d t
 |0,m,t,h=>absurd rfl h
 |d+1,m,t,h=>by
  rw[pc]at h
  split at h
  .exact absurd rfl h
  .rename_i q;refine⟨by cases hf:jo t with|true=>rfl|false=>exact absurd (.inr hf) q,λx hx=>?_⟩
   obtain⟨n,hn⟩:=ai1 (by omega) h x hx
   exact anj hn
noncomputable def po:Nat->D->List D
 |0,t=>[t]
 |d+1,t=>t::((inT t).map (po d)).flatten
theorem ac4{α β:Type}{f:α->List β}{n:Nat}:∀{xs:List α},(∀x∈xs,(f x).length<=n)->((xs.map f).flatten).length<=xs.length*n
 |[],_=>by simp
 |x::xs,h=>by
  have a:=h x (by simp)
  have b:=ac4 (xs:=xs) (λy hy=>h y (by simp[hy]))
  simp only[b6,bW,a9,aM,dI];omega
theorem adw:∀{d:Nat} {t:D},Shp d t->(po d t).length<=7^d
 |0,t,k=>k.elim
 |d+1,t,k=>by
  have a:=ac4 (f:=po d) (n:=7^d) λx hx=>adw (k.2 x hx);have b:=ahy k.1;have c:(inT t).length*7^d<=6*7^d:=bZ _ b;have e:0<7^d:=Nat.pow_pos (by decide)
  rw[po,aM,fY];omega
theorem ank:∀{d:Nat} {t:D},Shp d t->Deep (2*d) t->clos 0 (po d t)
 |0,t,k,_=>k.elim
 |d+1,t,k,p=>by
  rw[po];refine ak p.pln.clo (iy.mpr λx hx=>?_);obtain⟨l,hl,hx⟩:=eO.mp hx;obtain⟨y,hy,rfl⟩:=bF.mp hl;exact iy.mp (ank (k.2 y hy) (a4u (n:=2*d) p k.1 hy)) x hx
def iz:Nat->SF
 |0=>λ_ _=>.no
 |n+1=>jw (a0t jf (iz n)) 3
theorem ai2:∀{n d:Nat} {t:D},Shp d t->Deep (2*d) t->d<=n->d<=5->Pu (iz n) 1 [t] (.tup (po d t))
 |n,0,t,k,_,_,_=>k.elim
 |0,d+1,t,_,_,h,_=>absurd h (by omega)
 |n+1,d+1,t,k,p,h,h5=>by
  have c:=gh (ank k p);have dn:∀{a b:Nat} {u:D},Deep (a+b) u->Deep a u:=λ{a b u} q=>by
   induction b with
   |zero=>exact q
   |succ b ihb=>exact ihb q.down
  have p':Deep (2*d+2) t:=p;have inn:=a6u (dn (a:=2) (b:=2*d) (by rwa[eH 2])) k.1
  refine Pu.of rfl (K20.ar1 p.pln.clo) (r:=.ok (.tup (po (d+1) t)) [.lst (po (d+1) t)]) ?_ (je (a7p (bE _) c) (by simp)) c
  rw[iz,dm];show toR (a0t jf (iz n) [some t,none,none] [])=_;unfold a0t;refine etr (jr (d:=.ref 0) (h1:=[.lst [t]]) rfl) ?_;refine etr (a79 (a7t (m9 (au rfl) (inn _)) (adv _ _))) ?_;have lp:=a1a (g:=kN 2) (b:=zc jf (iz n)) (λx:D=>x)
   (λpre τ hh=>∃a:Option D,τ=[some t,some (.ref 0),a]/\hh=[.lst (t::(pre.map (po d)).flatten)])
   (inT t) [some t,some (.ref 0),none] [.lst [t]] ?_ ⟨none,rfl,rfl⟩
  .rw[da]at lp;obtain⟨τ',h',e',a,rfl,rfl⟩:=lp;refine ar (ah (λz=>toR (thn z _)) e') ?_;rw[a1e];have gt:uc [.ref 0] [.lst (po (d+1) t)]=.ok (.tup (po (d+1) t)) [.lst (po (d+1) t)]:=rfl;exact ah toR (fu (m9 (au rfl) gt))
  .rintro pre x post τ hh all ⟨a,rfl,rfl⟩
   have xm:x∈inT t:=by rw[all];simp
   have ih:=ai2 (n:=n) (d:=d) (k.2 x xm) (a4u (n:=2*d) p' k.1 xm) (by omega) (by omega)
   refine⟨_,_,rfl,[some t,some (.ref 0),some x],[.lst (t::((pre++[x]).map (po d)).flatten)],?_,some x,rfl,rfl⟩;unfold zc;have l1:=adw (k.2 x xm);have l2:=ac4 (f:=po d) (n:=7^d) (xs:=pre) λy hy=>adw (k.2 y (by rw[all];simp[hy]))
   have l3:pre.length<=6:=by have:=ahy k.1;rw[all]at this;simp at this;omega
   have l4:pre.length*7^d<=6*7^d:=bZ _ l3;have l5:7^d<=7^4:=Nat.pow_le_pow_right (by decide) (by omega)
   have l6:(7:Nat)^4=2401:=rfl;have ex:ah1 (.ref 0) [.tup (po d x)] [.lst (t::(pre.map (po d)).flatten)]=.ok .non [.lst (t::((pre++[x]).map (po d)).flatten)]:=by
    unfold ah1;simp only[e9,ww];rw[ai (dh (by simp only[aM];omega))]
    simp
   exact a6n (au rfl) rfl (arg1 (m9 (au rfl) (ih _))) ex
noncomputable def a7x(tg l:List Nat):Bool:=l.all λc=>decide (c∈tg)
def mq:SF:=jw a1s 2
theorem alr{tg l:List Nat}(hl:l.length<=1000):Pu mq 2 [.str (S tg),.str (S l)] (.bl (a7x tg l)):=by
 refine K20.a2a rfl (K20.ar2 (cj _) (cj _)) (h':=[]) ?_;unfold mq;rw[dm];show toR (a1s [some (.str (S tg)),some (.str (S l))] [])=_;unfold a1s;have i:kh [.str (S l),.ty "str"] []=.ok (.bl true) []:=by simp[kh,amy,tyD,aiy]
 have al:=K20.adt (fi:=sIt (sV 1)) (ce:=a1r) (ix:=[0]) (τ:=[some (.str (S tg)),some (.str (S l))]) (xs:=l.map λc=>.str (S [c])) (P:=λd=>match d with|.str x=>x.cps.toList.all (λc=>decide (c∈tg))|_=>false) (a7t (au rfl) (PAP.axb l _)) (by rw[aE];omega) λx hx=>by
  obtain⟨c,_,rfl⟩:=bF.mp hx;rw[yo];refine(jq (au rfl) (au rfl) (K20.axc false c tg _)).trans ?_;simp only[zb,bD,cU,cE,c4,dQ]
 have ea:(l.map λc=>D.str (S [c])).all (λd=>match d with|.str x=>x.cps.toList.all (λc=>decide (c∈tg))|_=>false)=a7x tg l:=by
  rw[dJ];unfold a7x
  congr 1
  funext c
  simp only[Function.comp,zb,bD,cU,cE]
 rw[ea]at al;exact ah toR (fu (a3u (kj (au rfl) ckk i) al))
noncomputable def onS:D->Option (List Nat)
 |.tup (.str x::.str y::_)=>if x == "one" then some y.cps.toList else none
 |_=>none
theorem aqq{t:D}(h:jo t=true):∃x y r,t=.tup (.str x::y::r)/\((x == "one")=true->∃l:List Nat,y=.str (S l)/\l.length<=6/\onS t=some l)/\((x == "one")=false->onS t=none):=by
 obtain⟨x,y,r,rfl,ys⟩:=a2l h
 clear ys
 refine⟨x,y,r,rfl,λe=>?_,λe=>?_⟩
 .unfold jo at h
  split at h
  .rename_i x' y' he
   injection he with he;injection he with h1 h2;injection h1 with h1;injection h2 with h2 h3
   subst h1;subst h2;rw[e,ai rfl]at h
   cases y<;>first|(simp[a2b]at h;done)|skip
   rename_i z;refine⟨z.cps.toList,by rw[a2v],?_,?_⟩
   .unfold a2b K20.a8w at h;simp only[af,b9]at h;omega
   .show(if (x == "one")=true then some z.cps.toList else none)=_
    rw[ai e]
  .rename_i x' y' a b he
   injection he with he;injection he with h1 h2;injection h1 with h1
   subst h1;simp[e]at h
  .simp at h
 .cases y<;>first|rfl|skip
  show(if (x == "one")=true then some _ else none)=none
  rw[aL (by rw[e];decide)]
theorem anl:∀{d:Nat} {t:D},Shp d t->∀p∈po d t,jo p=true
 |0,t,k,_,_=>k.elim
 |d+1,t,k,p,hp=>by
  rw[po]at hp
  rcases aV.mp hp with rfl|hp
  .exact k.1
  .obtain⟨l,hl,hp⟩:=eO.mp hp;obtain⟨y,hy,rfl⟩:=bF.mp hl;exact anl (k.2 y hy) p hp
noncomputable def a7c(tg:List Nat):D->Bool
 |.tup [n,s]=>ai0 n && (aj2 s && ((po 5 s).filterMap onS).all (a7x tg))
 |_=>false
def o7:SF:=jw (a1w nu K20.gq lr mq (iz 5)) 2
theorem als{tg:List Nat}{d:D}(p:Deep 11 d):Pu o7 2 [.str (S tg),d] (.bl (a7c tg d)):=by
 refine K20.a2a rfl (K20.ar2 (cj _) p.pln.clo) (h':=[]) ?_;have row:=K20.a1b p.pln 2 2;unfold o7;rw[dm];show toR (a1w nu K20.gq lr mq (iz 5) [some (.str (S tg)),some d] [])=_;unfold a1w
 cases hl:uy 2 2 d with
 |false =>
  rw[hl]at row;have e:a7c tg d=false:=by
   unfold a7c
   split
   .simp[uy]at hl
   .rfl
  rw[e];exact ah toR (jx (ar (ifT (orT (a0r (j5 (a3a (au rfl) ckk ckk (row _)) (di _))))) (fu ckk)))
 |true =>
  rw[hl]at row;obtain⟨n,s,rfl⟩:∃n s,d=.tup [n,s]:=by
   cases d<;>first|(simp[uy]at hl;done)|skip
   rename_i xs;have hl:=bI hl
   match xs,hl with
   |[n,s],_=>exact⟨n,s,rfl⟩
   |[],h=>simp at h
   |[_],h=>simp at h
   |_::_::_::_,h=>simp at h;omega
  have pn:=((p.2 _ rfl).2 n (by simp)).pln
  have ps:Deep 10 s:=(p.2 _ rfl).2 s (by simp)
  have e1:=alq pn;have e2:=ahz ps;have g0:∀h:Hd,s2 gIx (sV 1) (sI 0) [some (.str (S tg)),some (.tup [n,s])] h=.ok n h:=λh=>mz rfl ix0;have g1:∀h:Hd,s2 gIx (sV 1) (sI 1) [some (.str (S tg)),some (.tup [n,s])] h=.ok s h:=λh=>mz rfl ix1;show _=R.ok (D.bl (ai0 n && (aj2 s && ((po 5 s).filterMap onS).all (a7x tg)))) []
  cases hn:ai0 n with
  |false =>
   rw[hn]at e1;exact ah toR (jx (ar (ifT (orF (rm (j5 (a3a (au rfl) ckk ckk (row _)) (di _))) (orT (a0r (j5 (m9 (g0 _) (e1 _)) (di _)))))) (fu ckk)))
  |true =>
   rw[hn]at e1
   cases hs:aj2 s with
   |false =>
    rw[hs]at e2;exact ah toR (jx (ar (ifT (orF (rm (j5 (a3a (au rfl) ckk ckk (row _)) (di _))) (orF (rm (j5 (m9 (g0 _) (e1 _)) (di _))) (a0r (j5 (m9 (g1 _) (e2 _)) (di _)))))) (fu ckk)))
   |true =>
    rw[hs]at e2;have sh:Shp 5 s:=anj (m:=24) (by have:=bI hs;omega)
    have po:=ai2 (n:=5) sh ps (a8 _) (a8 _);refine eti (orF (rm (j5 (a3a (au rfl) ckk ckk (row _)) (di _))) (orF (rm (j5 (m9 (g0 _) (e1 _)) (di _))) (rm (j5 (m9 (g1 _) (e2 _)) (di _))))) ?_;have pl:=adw sh;have l7:(7:Nat)^5=16807:=rfl;have cz:sZ (a1k (sIt (sA (j8 false 1 (iz 5)) (aa (s2 gIx (sV 1) (sI 1)) aq))) t1 (a09 nu K20.gq lr mq (iz 5)) (a08 nu K20.gq lr mq (iz 5)) [0]) [some (.str (S tg)),some (.tup [n,s])] []=.ok (.rol (((K16.po 5 s).filterMap λp=>(onS p).map λl=>D.bl (a7x tg l)))) []:=by
     refine a5i (a6m (λx:D=>x) (λp=>(onS p).map λl=>D.bl (a7x tg l)) (K16.po 5 s) ?_ (dh (by omega)) λq hq=>?_) ?_ (by simp)
     .rw[da];exact a7t (m9 (g1 _) (po _)) (adv _ _)
     .obtain⟨x,y,r,rfl,y1,y2⟩:=aqq (anl sh q hq);rw[abu];unfold a09 a08;show R.bind (sT (s2 hEq (s2 gIx (sV 0) (sI 0)) (sC (.str "one"))) (some (.tup (.str x::y::r))::[some (.str (S tg))]) []) _=_;rw[a7w,bc]
      cases hx:(x == "one") with
      |false=>rw[y2 hx];rfl
      |true =>
       obtain⟨l,rfl,l6,e⟩:=y1 hx;rw[e];simp only[dB];show R.bind (sA (j8 false 2 mq) (aa (sV 1) (aa (s2 gIx (sV 0) (sI 1)) aq)) (some (.tup (.str x::.str (S l)::r))::[some (.str (S tg))]) []) _=_;rw[kj (au rfl) (mz rfl ix1) (alr (tg:=tg) (l:=l) (by omega) _),bc]
       rfl
     .refine iy.mpr λz hz=>?_;obtain⟨q,_,e⟩:=cT.mp hz
      cases ho:onS q with
      |none=>rw[ho]at e;simp at e
      |some l=>rw[ho]at e;simp at e;subst e;exact ud _
    have fm:((K16.po 5 s).filterMap λp=>(onS p).map λl=>D.bl (a7x tg l))=(((K16.po 5 s).filterMap onS).map (a7x tg)).map D.bl:=by
     rw[cK,List.map_filterMap];rfl
    rw[fm]at cz;refine ah toR (fu (m9 cz ?_));rw[PAP.ane,dJ];rfl
theorem ai3:∀(l ns:List Str),(l.foldl stepT ns).length<=ns.length+l.length
 |[],ns=>by simp
 |k::l,ns=>by
  have a:=ai3 l (stepT ns k);have b:(stepT ns k).length<=ns.length+1:=by unfold stepT;split<;>simp
  rw[dH,aM];omega
theorem ai4:∀(l ns:List Str),ns.Nodup->((l.foldl stepT ns).length=ns.length+l.length↔(ns++l).Nodup)
 |[],ns,h=>by simp[h]
 |k::l,ns,h=>by
  rw[dH,aM]
  by_cases m:k∈ns
  .have e:stepT ns k=ns:=ai m;rw[e]
   constructor
   .intro z;have:=ai3 l ns;omega
   .intro z
    rw[bC]at z;exact absurd rfl (z.2.2 k m k (by simp))
  .have e:stepT ns k=ns++[k]:=aL m;have nd:(ns++[k]).Nodup:=by
    rw[bC];exact⟨h,by simp,λa ha b hb z=>by rw[aI]at hb;subst hb;subst z;exact m ha⟩
   have:=ai4 l (ns++[k]) nd
   rw[a9,ay,c9]at this;rw[e,show ns.length+(l.length+1)=ns.length+1+l.length by omega]
   exact this
theorem adx{f:D->Hd->R D}:∀(rs:List (Str×D)) (ns:List Str),ns.length+rs.length<=60->(∀p∈rs,f (.tup [.str p.1,p.2]) []=.ok (.str p.1) [])->
  MI.alb (λ_=>True) f (rs.map λp=>.tup [.str p.1,p.2]) ns []=.ok ((rs.map Prod.fst).foldl stepT ns) []
 |[],ns,_,_=>by rw[cN,MI.alb,ai trivial];rfl
 |p::rs,ns,h,st=>by
  have b:(stepT ns p.1).length<=ns.length+1:=by unfold stepT;split<;>simp
  rw[aM]at h;rw[b6,MI.alb,ai trivial,st p (by simp),bc]
  show(if ns.length<63 then _ else R.no)=_
  rw[ai (by omega)]
  exact adx rs _ (by omega) λq hq=>st q (by simp[hq])
noncomputable def nmO:D->Option Str|.tup (.str x::_)=>some x|_=>none
noncomputable def a3d:D->Bool
 |.tup [.str t,.tup rs]=>K20.a8w t.cps.toList && (decide (rs.length<=6) && (rs.all (a7c t.cps.toList) && decide (rs.filterMap nmO).Nodup))
 |_=>false
theorem ady{tg:List Nat}{d:D}(h:a7c tg d=true):∃x s,d=.tup [.str x,s]:=by
 unfold a7c at h
 split at h
 .rename_i n s;simp only[af]at h
  cases n<;>first|(simp[ai0]at h;done)|exact⟨_,_,rfl⟩
 .simp at h
theorem aam{tg:List Nat}:∀{rs:List D},rs.all (a7c tg)=true->∃ps:List (Str×D),rs=ps.map (λp=>.tup [.str p.1,p.2])/\rs.filterMap nmO=ps.map Prod.fst
 |[],_=>⟨[],rfl,rfl⟩
 |d::rs,h=>by
  rw[bD,af]at h;obtain⟨x,s,rfl⟩:=ady h.1;obtain⟨ps,e1,e2⟩:=aam h.2;exact⟨(x,s)::ps,by rw[b6,<-e1],by rw[b6,<-e2];rfl⟩
def jt:SF:=jw (a01 K20.ig) 1
theorem af1{d:D}(p:PAP.Pln d):Pu jt 1 [d] (.bl (a2b d)):=by
 refine K20.a2a rfl (K20.ar1 p.clo) (h':=[]) ?_;unfold jt;rw[dm];show toR (a01 K20.ig [some d] [])=_;unfold a01;exact ah toR (fu (m9 (au rfl) (K20.aak p _)))
def o8:SF:=jw (a1v K20.gq o7 jt) 3
theorem adz{d:D}(p:Deep 13 d):Pu o8 1 [d] (.bl (a3d d)):=by
 refine K20.a2a rfl (K20.ar1 p.pln.clo) (h':=[]) ?_;have row:=K20.a1b p.pln 2 2;unfold o8;rw[dm];show toR (a1v K20.gq o7 jt [some d,none,none] [])=_;unfold a1v
 cases hl:uy 2 2 d with
 |false =>
  rw[hl]at row;have e:a3d d=false:=by
   unfold a3d
   split
   .simp[uy]at hl
   .rfl
  rw[e];exact ah toR (jx (ar (ifT (orT (a0r (j5 (a3a (au rfl) ckk ckk (row _)) (di _))))) (fu ckk)))
 |true =>
  rw[hl]at row;obtain⟨t,rs,rfl⟩:∃n s,d=.tup [n,s]:=by
   cases d<;>first|(simp[uy]at hl;done)|skip
   rename_i xs;have hl:=bI hl
   match xs,hl with
   |[n,s],_=>exact⟨n,s,rfl⟩
   |[],h=>simp at h
   |[_],h=>simp at h
   |_::_::_::_,h=>simp at h;omega
  have pt:=((p.2 _ rfl).2 t (by simp)).pln
  have pr:Deep 12 rs:=(p.2 _ rfl).2 rs (by simp)
  have e1:=af1 pt;have e2:=K20.a1b pr.pln 0 6;have g0:∀(h:Hd),s2 gIx (sV 0) (sI 0) [some (.tup [t,rs]),none,none] h=.ok t h:=λh=>mz rfl ix0;have g1:∀(h:Hd),s2 gIx (sV 0) (sI 1) [some (.tup [t,rs]),none,none] h=.ok rs h:=λh=>mz rfl ix1
  cases ht:a2b t with
  |false =>
   rw[ht]at e1;have e:a3d (.tup [t,rs])=false:=by
    unfold a3d
    split
    .rename_i h;injection h with h;injection h with h1 h2;subst h1
     rw[show K20.a8w _=false from ht];rfl
    .rfl
   rw[e];exact ah toR (jx (ar (ifT (orF (rm (j5 (a3a (au rfl) ckk ckk (row _)) (di _))) (orT (a0r (j5 (m9 (g0 _) (e1 _)) (di _)))))) (fu ckk)))
  |true =>
   rw[ht]at e1
   cases hr:uy 0 6 rs with
   |false =>
    rw[hr]at e2;have e:a3d (.tup [t,rs])=false:=by
     unfold a3d
     split
     .rename_i h;injection h with h;injection h with h1 h2;injection h2 with h2 h3;subst h2
      rename_i ws;have:¬ ws.length<=6:=λz=>by
       have:=of_decide_eq_false hr;omega
      simp[this]
     .rfl
    rw[e];exact ah toR (jx (ar (ifT (orF (rm (j5 (a3a (au rfl) ckk ckk (row _)) (di _))) (orF (rm (j5 (m9 (g0 _) (e1 _)) (di _))) (a0r (j5 (a3a (g1 _) ckk ckk (e2 _)) (di _)))))) (fu ckk)))
   |true =>
    rw[hr]at e2;obtain⟨x,rfl⟩:∃x,t=.str x:=by cases t<;>first|exact⟨_,rfl⟩|simp[a2b]at ht
    obtain⟨ws,rfl⟩:∃ws,rs=.tup ws:=by cases rs<;>first|exact⟨_,rfl⟩|simp[uy]at hr
    have wl:ws.length<=6:=by have:=bI hr;omega
    refine eti (orF (rm (j5 (a3a (au rfl) ckk ckk (row _)) (di _))) (orF (rm (j5 (m9 (g0 _) (e1 _)) (di _))) (rm (j5 (a3a (g1 _) ckk ckk (e2 _)) (di _))))) ?_;refine etr (wj (alj (au rfl) rfl)) ?_;have al:=K20.adt (fi:=sIt (sV 2)) (ce:=a1t K20.gq o7 jt) (ix:=[1]) (τ:=[some (.tup [.str x,.tup ws]),some (.str x),some (.tup ws)]) (xs:=ws) (P:=a7c x.cps.toList) (a7t (au rfl) (adv _ _)) (by omega) λd hd=>by
     rw[yo];have:=als (tg:=x.cps.toList) ((pr.2 _ rfl).2 d hd);rw[a2v]at this;exact kj (au rfl) (au rfl) (this _)
    have val:a3d (.tup [.str x,.tup ws])=(ws.all (a7c x.cps.toList) && decide (ws.filterMap nmO).Nodup):=by
     show(K20.a8w x.cps.toList && (decide (ws.length<=6) && _))=_;rw[show K20.a8w x.cps.toList=true from ht,aw wl,bM,bM]
    rw[val]
    cases ha:ws.all (a7c x.cps.toList) with
    |false =>
     rw[ha]at al;exact ah toR (jx (ar (ifT (a0r (j5 al (di _)))) (fu ckk)))
    |true =>
     rw[ha]at al;refine eti (rm (j5 al (di _))) ?_;obtain⟨ps,rfl,nm⟩:=aam ha;have pl:ps.length<=6:=by rwa[aE]at wl
     have lc:ald (sIt (sV 2)) (tN 2) (a1u K20.gq o7 jt) [] [some (.tup [.str x,.tup (ps.map λp=>.tup [.str p.1,p.2])]),some (.str x),some (.tup (ps.map λp=>.tup [.str p.1,p.2]))] []=.ok (bj ((ps.map Prod.fst).foldl stepT []).length) []:=by
      unfold ald;rw[a7t (au rfl) (adv _ _),bc];dsimp only;rw[adx ps [] (by simp;omega) λq hq=>?_,bc]
      .rfl
      .rfl
     have nd:=ai4 (ps.map Prod.fst) [] dD;rw[bR,bg,eK,aE]at nd;refine ah toR (fu (jq lc (m9 (au rfl) ltn) ?_));rw[nm,bM,aE]
     by_cases z:(ps.map Prod.fst).Nodup
     .rw[aw z];exact vm (by rw[nd.mpr z])
     .rw[av z];exact ux (λq=>z (nd.mp (by omega)))
theorem ai5(l:List Nat)(h:Hd):a8o false (.rol (l.map bj)) (.rol []) h=.ok (.bl l.isEmpty) h:=by
 have p:(l.map bj).all (pur 59)=true:=by
  rw[aO]
  intro x hx
  obtain⟨y,_,rfl⟩:=bF.mp hx;rfl
 unfold a8o;simp only[zu,p,cU,Bool.and_self,dB]
 cases l<;>rfl
noncomputable def bad(tg l:List Nat)(k:Nat):Bool:=decide (l.getD k 0∈l.take k) || !decide (l.getD k 0∈tg)
noncomputable def alu(tg l:List Nat):Bool:=decide (1<=l.length/\l.length<=6) && ((List.range l.length).filter (bad tg l)).isEmpty
noncomputable def alv(tg:List Nat):D->Bool|.str x=>alu tg x.cps.toList|_=>false
theorem aw4(tg l:List Nat):alv tg (.str (S l))=alu tg l:=by simp only[alv,zb]
def bh:SF:=jw uf 2
theorem aan{tg:List Nat}{d:D}(p:PAP.Pln d):Pu bh 2 [d,.str (S tg)] (.bl (alv tg d)):=by
 refine K20.a2a rfl (K20.ar2 p.clo (cj _)) (h':=[]) ?_;unfold bh;rw[dm];show toR (uf [some d,some (.str (S tg))] [])=_;unfold uf;have a1:sA kh (aa (sV 0) (aa (sC (.ty "str")) aq)) [some d,some (.str (S tg))] []=.ok (.bl (isStr d)) []:=kj (au rfl) ckk (K20.ac1 p)
 cases hs:isStr d with
 |true =>
  obtain⟨x,rfl⟩:∃x,d=.str x:=by cases d<;>first|exact⟨_,rfl⟩|simp[isStr]at hs
  rw[hs]at a1;have xl:x.cps.toList.length<=1000:=p;rw[<-a2v x]at a1 ⊢
  generalize x.cps.toList=l at xl a1
  rw[aw4];have ln:∀hh,my [.str (S l)] hh=.ok (.int (l.length:Nat)) hh:=λhh=>a78 (dh (by omega))
  have ch:=K20.ac2 (f:=sC (.int 1)) (g:=sA my (aa (sV 0) aq)) (k:=sC (.int 6)) (τ:=[some (.str (S l)),some (.str (S tg))]) (h:=[]) ckk (m9 (au rfl) (ln _)) ckk;unfold alu
  by_cases hl:1<=l.length/\l.length<=6
  .rw[aw (by omega)]at ch
   refine eti (orF (rm (j5 a1 (di _))) (rm (tof ch))) ?_;have cz:sZ (a1k (sRg a0l (aa (sA my (aa (sV 0) aq)) aq)) t1 lq xn [0,1]) [some (.str (S l)),some (.str (S tg))] []=.ok (.rol (((List.range l.length).filter (bad tg l)).map bj)) []:=by
    have fm:((List.range l.length).filter (bad tg l)).map bj=(List.range l.length).filterMap λk=>if bad tg l k=true then some (bj k) else none:=by
     generalize List.range l.length=ks
     induction ks with
     |nil=>rfl
     |cons k ks ih =>
      rw[List.filter_cons,bJ]
      by_cases z:bad tg l k=true
      .rw[ai z,ai z,b6,ih]
      .rw[aL z,aL z,ih]
    rw[fm];refine a5i (a6m bj (λk=>if bad tg l k=true then some (bj k) else none) (List.range l.length) (abt (m9 (au rfl) (ln _)) (dh (by omega))) (dh (by simp;omega)) λk hk=>?_) ?_ (by simp)
    .have hk':k<l.length:=c6.mp hk;have gk:l[k]? = some (l.getD k 0):=by rw[aZ,a6 hk'];rfl
     have xk:∀h:Hd,s2 gIx (sV 1) (sV 0) [some (bj k),some (.str (S l)),some (.str (S tg))] h=.ok (.str (S [l.getD k 0])) h:=λh=>jq (au rfl) (au rfl) (aj1 (dh (by omega)) gk)
     rw[abu];have c:lq [some (bj k),some (.str (S l)),some (.str (S tg))] []=.ok (bad tg l k) []:=by
      unfold lq bad;have i1:=K20.axc false (l.getD k 0) (l.take k) [];have i2:=K20.axc true (l.getD k 0) tg [];have e1:sT (s2 (gIn false) (s2 gIx (sV 1) (sV 0)) (a2g (sV 1) oN (oS (sV 0)))) [some (bj k),some (.str (S l)),some (.str (S tg))] []=.ok (decide (l.getD k 0∈l.take k)) []:=t2s (xk _) (PAP.a5r (au rfl) onn (PAP.a5f (au rfl)) (avb k (dh (by omega)))) (i1.trans (by simp))
      have e2:sT (s2 (gIn true) (s2 gIx (sV 1) (sV 0)) (sV 2)) [some (bj k),some (.str (S l)),some (.str (S tg))] []=.ok (!decide (l.getD k 0∈tg)) []:=t2s (xk _) (au rfl) (i2.trans (by simp))
      cases z:decide (l.getD k 0∈l.take k) with
      |true=>rw[z]at e1;exact orT e1
      |false=>rw[z]at e1;exact orF e1 e2
     show R.bind (lq [some (bj k),some (.str (S l)),some (.str (S tg))] []) _=_;rw[c,bc]
     cases bad tg l k with
     |true=>rfl
     |false=>rfl
    .exact iy.mpr λz hz=>by
      obtain⟨k,_,e⟩:=cT.mp hz
      split at e
      .injection e with e;subst e;exact bz _
      .simp at e
   rw[aw hl,bM];exact ah toR (fu (jq cz (zds nlo rfl bx nlc (by simp)) (ai5 _ _)))
  .rw[av (by omega)]at ch
   rw[av hl,dC];exact ah toR (jx (ar (ifT (orF (rm (j5 a1 (di _))) (a0r (tof ch)))) (fu ckk)))
 |false =>
  rw[hs]at a1;have:alv tg d=false:=by cases d<;>first|rfl|simp[isStr]at hs
  rw[this];exact ah toR (jx (ar (ifT (orT (a0r (j5 a1 (di _))))) (fu ckk)))
end K16
namespace K16
open L2 MI AT HND
theorem anm(l:List Nat)(k:Nat):K20.L l k=l.getD k 0:=by unfold K20.L;rw[aZ]
theorem ai6{tg:List Nat}(ht:∀c∈tg,c∈sig)(l:List Nat):alu tg l=(K20.a8w l && a7x tg l):=by
 unfold alu K20.a8w;rw[Bool.and_assoc]
 congr 1
 rw[<-K20.aqo,cQ,af,List.isEmpty_iff,List.filter_eq_nil_iff,aO];unfold a7x;rw[aO]
 constructor
 .intro h
  have g:∀k,k<l.length->¬ l.getD k 0∈l.take k/\l.getD k 0∈tg:=λk hk=>by
   have:=h k (c6.mpr hk)
   unfold bad at this;simp only[cR,b9,dR,fN,not_or,Decidable.not_not]at this;exact this
  refine⟨λk hk=>?_,λc hc=>?_⟩
  .obtain⟨a,b⟩:=g k (c6.mp hk);unfold K20.avx;rw[anm,aw (ht _ b),av a];rfl
  .obtain⟨k,hk,rfl⟩:=List.getElem_of_mem hc;have:=(g k hk).2;rw[aZ,a6 hk]at this;exact aw this
 .rintro⟨h1,h2⟩ k hk
  have hk':=c6.mp hk;have a:=h1 k hk;unfold K20.avx at a;rw[anm,af,dR,fN]at a;have m:l.getD k 0∈l:=by
   rw[aZ,a6 hk'];exact bo hk'
  have b:=bI (h2 _ m);unfold bad;rw[av a.2,aw b]
  decide
end K16
namespace SRC
open L2 MI AT
structure Src (o:O) (N:Nat):Prop where
 ex:∃(cells:List Int) (a l c s:Int),o=.lst [.rol (cells.map D.int),.int a,.int l,.int c,.int s]/\0<=a/\0<=l/\0<=s/\s<2147483647/\0<=c/\c<=N
theorem Src.clo(P:Src o N):wg 0 o:=by
 obtain⟨cells,a,l,c,s,rfl,_⟩:=P.ex;exact ak (v7 (gf λx _=>bz x)) (ak (bz _) (ak (bz _) (ak (bz _) (ak (bz _) bx))))
theorem Src.up(P:Src o N)(h:N<=M):Src o M:=by
 obtain⟨cells,a,l,c,s,e,h1,h2,h3,h4,h5,h6⟩:=P.ex;exact⟨cells,a,l,c,s,e,h1,h2,h3,h4,h5,by omega⟩
def aj:SF:=jw a0o 4
abbrev so(cells:List Int)(a l c s:Int):O:=.lst [.rol (cells.map D.int),.int a,.int l,.int c,.int s]
theorem ae0(e:h[i]? = some (.lst xs))(hj:xs[j]? = some y):aj0 (.ref i) (.int (j:Nat)) h=.ok y h:=by
 unfold aj0;simp only[e,uz hj]
theorem axd(e1:fo τ h=.ok o h)(e2:fi τ h=.ok i h)(e3:aj0 o i h=.ok x h)(e4:fe τ h=.ok y h)(e5:G x y h=.ok z h)(e6:put o i z h=some h'):a1n G fo fi fe τ h=.nx τ h':=by
 unfold a1n;rw[e1,a1o,e2,a1o,e3,a1o,e4,a1o,e5,a1o,e6]
theorem b2k(c:y<=x):gGe (.int x) (.int y) h=.ok (.bl true) h:=by show R.ok (D.bl (decide (y<=x))) h=_;rw[aw c]
theorem b2l(c:¬ y<=x):gGe (.int x) (.int y) h=.ok (.bl false) h:=by show R.ok (D.bl (decide (y<=x))) h=_;rw[av c]
theorem ai7(P:Src o N)(hN:N<=1000000000)(m0:0<m)(m1:m<1073741824):∃r o',aj [.ref 0,.int m] [o]=.ok (.int r) [o']/\0<=r/\r<m/\Src o' (N+1):=by
 obtain⟨cells,a,l,c,s,rfl,a0,l0,s0,s1,c0,c1⟩:=P.ex;unfold aj;rw[dm];show ∃r o',toR (a0o [some (.ref 0),some (.int m),none,none] [so cells a l c s])=_/\_;unfold a0o;have last:∀s':Int,0<=s'->s'<2147483647->∃r q,0<=r/\r<m/\(s'+1+(c+1)*7919)^(3:Int).toNat%2147483647=q/\(q*48271+(c+1))^(2:Int).toNat%2147483629 / 64%m=r/\CMul (c+1) 7919/\CMul q 48271 /\
   (∀h,a6e (.int (s'+1+(c+1)*7919)) (.int 3) h=.ok (.int ((s'+1+(c+1)*7919)^(3:Int).toNat)) h)/\∀h,a6e (.int (q*48271+(c+1))) (.int 2) h=.ok (.int ((q*48271+(c+1))^(2:Int).toNat)) h:=λs' h0 h1=>by
  have q0:0<=(s'+1+(c+1)*7919)^(3:Int).toNat%2147483647:=dO _ (by decide)
  have q1:(s'+1+(c+1)*7919)^(3:Int).toNat%2147483647<2147483647:=cV _ (by decide)
  refine⟨_,_,dO _ (by omega),cV _ m0,rfl,rfl,.inr ⟨by decide,by decide⟩,.inr ⟨by decide,by decide⟩,λh=>aq8 ⟨by decide,by decide,by omega⟩,λh=>aq8 ⟨by decide,by decide,?_⟩⟩
  generalize (s'+1+(c+1)*7919)^(3:Int).toNat%2147483647=q at q0 q1
  omega
 have x0:∀{a l c s:Int},gIx (.ref 0) (.int 0) [so cells a l c s]=.ok (.rol (cells.map D.int)) [so cells a l c s]:=λ{a l c s}=>aad (j:=0) rfl rfl;have x1:∀{a l c s:Int},gIx (.ref 0) (.int 1) [so cells a l c s]=.ok (.int a) [so cells a l c s]:=λ{a l c s}=>aad (j:=1) rfl rfl;have x2:∀{a l c s:Int},gIx (.ref 0) (.int 2) [so cells a l c s]=.ok (.int l) [so cells a l c s]:=λ{a l c s}=>aad (j:=2) rfl rfl;have x3:∀{a l c s:Int},gIx (.ref 0) (.int 3) [so cells a l c s]=.ok (.int c) [so cells a l c s]:=λ{a l c s}=>aad (j:=3) rfl rfl
 have x4:∀{a l c s:Int},gIx (.ref 0) (.int 4) [so cells a l c s]=.ok (.int s) [so cells a l c s]:=λ{a l c s}=>aad (j:=4) rfl rfl;have u3:∀{a l c s:Int} {τ:Sd},τ[0]? = some (some (.ref 0))->a1n a1m (sV 0) (sI 3) (sI 1) τ [so cells a l c s]=.nx τ [so cells a l (c+1) s]:=λ{a l c s τ} h0=>axd (au h0) ckk (ae0 (j:=3) rfl rfl) ckk a2x rfl;have u1:∀{a l c s:Int} {τ:Sd},τ[0]? = some (some (.ref 0))->a1n a1m (sV 0) (sI 1) (sI 1) τ [so cells a l c s]=.nx τ [so cells (a+1) l c s]:=λ{a l c s τ} h0=>axd (au h0) ckk (ae0 (j:=1) rfl rfl) ckk a2x rfl
 have p18:∀{h:Hd},a6e (.int 10) (.int 18) h=.ok (.int 1000000000000000000) h:=λ{h}=>p18 h;have e1:∀{a l c s:Int} {t2:Option D},0<l->toR (gj (sIf (sT (s2 gGt (s2 gIx (sV 0) (sI 2)) (sI 0))) (gj (jm 3 (s2 a3n (s2 gIx (sV 0) (sI 2)) (sV 1))) (gj (a1n a74 (sV 0) (sI 2) (sV 1)) (ju (sV 3)))) sNx) (gj (jm 3 (s2 a3n (s2 a6e (s2 gw (s2 gw (s2 gIx (sV 0) (sI 4)) (sI 1)) (s2 yw (s2 gIx (sV 0) (sI 3)) (sI 7919))) (sI 3)) (sI 2147483647))) (ju (s2 a3n (s2 a74 (s2 a3n (s2 a6e (s2 gw (s2 yw (sV 3) (sI 48271)) (s2 gIx (sV 0) (sI 3))) (sI 2)) (sI 2147483629)) (sI 64)) (sV 1)))) [some (.ref 0),some (.int m),t2,none] [so cells a l c s])=.ok (.int (l%m)) [so cells a (l / m) c s]:=λ{a l c s t2} hl=>by
  refine ah toR (jx (ar (ifT (t2s (mz rfl x2) ckk (ado hl))) ?_));refine ar (jr (jq (mz rfl x2) (au rfl) (a5e m0))) ?_;refine ar (wj (axd (au rfl) ckk (ae0 (j:=2) rfl rfl) (au rfl) (div_ii ⟨m0,m1⟩) rfl)) ?_;exact fu (au rfl)
 have e2:∀{a s':Int} {t2:Option D},0<=s'->s'<2147483647->∃r,0<=r/\r<m/\toR (gj (sIf (sT (s2 gGt (s2 gIx (sV 0) (sI 2)) (sI 0))) (gj (jm 3 (s2 a3n (s2 gIx (sV 0) (sI 2)) (sV 1))) (gj (a1n a74 (sV 0) (sI 2) (sV 1)) (ju (sV 3)))) sNx) (gj (jm 3 (s2 a3n (s2 a6e (s2 gw (s2 gw (s2 gIx (sV 0) (sI 4)) (sI 1)) (s2 yw (s2 gIx (sV 0) (sI 3)) (sI 7919))) (sI 3)) (sI 2147483647))) (ju (s2 a3n (s2 a74 (s2 a3n (s2 a6e (s2 gw (s2 yw (sV 3) (sI 48271)) (s2 gIx (sV 0) (sI 3))) (sI 2)) (sI 2147483629)) (sI 64)) (sV 1)))) [some (.ref 0),some (.int m),t2,none] [so cells a 0 (c+1) s'])=.ok (.int r) [so cells a 0 (c+1) s']:=λ{a s' t2} h0 h1=>by
  obtain⟨r,q,r0,r1,eq,er,d1,d2,d3,d4⟩:=last s' h0 h1;refine⟨r,r0,r1,?_⟩;refine eti (t2s (mz rfl x2) ckk (adp (by omega))) ?_
  refine ets (jq (jq (jq (jq (mz rfl x4) ckk a07) (jq (mz rfl x3) ckk (a2o.trans (ai d1))) a07) ckk (d3 _)) ckk (a5e (by decide))) ?_
  rw[eq];refine etr (fu (jq (jq (jq (jq (jq (mz rfl (a2o.trans (ai d2))) (mz rfl x3) a07) ckk (d4 _)) ckk (a5e (by decide))) ckk (div_ii ⟨by decide,by decide⟩)) (au rfl) (a5e m0))) ?_
  rw[er];rfl
 by_cases hA:l=0/\a<(cells.length:Int)
 .obtain⟨rfl,ha⟩:=hA;obtain⟨j,rfl⟩:=eA a0;have hj:j<cells.length:=by omega
  have gx:∀{h:Hd},gIx (.rol (cells.map D.int)) (.int (j:Nat)) h=.ok (.int cells[j]) h:=λ{h}=>az1 (by rw[bV,a6 hj];rfl)
  have tt:∀{c s:Int} {t2 t3:Option D},zj (sT (s2 hEq (s2 gIx (sV 0) (sI 2)) (sI 0))) (sT (s2 gLt (s2 gIx (sV 0) (sI 1)) (sA my (aa (s2 gIx (sV 0) (sI 0)) aq)))) [some (.ref 0),some (.int m),t2,t3] [so cells (j:Nat) 0 c s]=.ok true [so cells (j:Nat) 0 c s]:=λ{c s t2 t3} =>
   a4f (t2s (mz rfl x2) ckk (vm rfl)) (t2s (mz rfl x1) (m9 (mz rfl x0) (a2w.trans (by rw[aE]))) (aas ha))
  have s2':0<=(s*31+cells[j])%2147483647:=dO _ (by decide)
  have s3:(s*31+cells[j])%2147483647<2147483647:=cV _ (by decide)
  have go:∀{o':O} {g:SS},sIf (sT (s2 gGe (sV 2) (s2 a6e (sI 10) (sI 18)))) (aeo (sV 2) (sV 0) (sI 2)) (aeo (s2 a3n (s2 gw (s2 yw (s2 gIx (sV 0) (sI 4)) (sI 31)) (sV 2)) (sI 2147483647)) (sV 0) (sI 4)) [some (.ref 0),some (.int m),some (.int cells[j]),none] [so cells ((j:Nat)+1) 0 (c+1) s]=.nx [some (.ref 0),some (.int m),some (.int cells[j]),none] [o']->
    toR (gj (a1n a1m (sV 0) (sI 3) (sI 1)) (gj (sIf (zj (sT (s2 hEq (s2 gIx (sV 0) (sI 2)) (sI 0))) (sT (s2 gLt (s2 gIx (sV 0) (sI 1)) (sA my (aa (s2 gIx (sV 0) (sI 0)) aq))))) (gj (jm 2 (s2 gIx (s2 gIx (sV 0) (sI 0)) (s2 gIx (sV 0) (sI 1)))) (gj (a1n a1m (sV 0) (sI 1) (sI 1)) (sIf (sT (s2 gGe (sV 2) (s2 a6e (sI 10) (sI 18)))) (aeo (sV 2) (sV 0) (sI 2)) (aeo (s2 a3n (s2 gw (s2 yw (s2 gIx (sV 0) (sI 4)) (sI 31)) (sV 2)) (sI 2147483647)) (sV 0) (sI 4))))) sNx) g) [some (.ref 0),some (.int m),none,none] [so cells (j:Nat) 0 c s])=toR (g [some (.ref 0),some (.int m),some (.int cells[j]),none] [o']):=λ{o' g} e=>by
   refine etr (wj (u3 rfl)) ?_;refine ah toR (wj (ar (ifT tt) ?_));refine ar (jr (jq (mz rfl x0) (mz rfl x1) gx)) ?_;exact ar (wj (u1 rfl)) e
  generalize cells[j]=x at *
  by_cases hB:(1000000000000000000:Int)<=x
  .refine⟨x%m,_,(go (o':=so cells ((j:Nat)+1) x (c+1) s) (ar (ifT (t2s (au rfl) (jq ckk ckk p18) (b2k hB))) (ave (au rfl) (au rfl) ckk rfl))).trans (e1 (by omega)),dO _ (by omega),cV _ m0,⟨cells,(j:Int)+1,x / m,c+1,s,rfl,by omega,Int.ediv_nonneg (by omega) (by omega),s0,s1,by omega,by omega⟩⟩
  .obtain⟨r,r0,r1,e⟩:=e2 (a:=(j:Nat)+1) (t2:=some (.int x)) s2' s3;exact⟨r,_,(go (o':=so cells ((j:Nat)+1) 0 (c+1) ((s*31+x)%2147483647)) (ar (ifF (t2s (au rfl) (jq ckk ckk p18) (b2l hB))) (ave (jq (jq (jq (mz rfl x4) ckk (a2o.trans (ai (.inr ⟨by decide,by decide⟩)))) (au rfl) a07) ckk (a5e (by decide))) (au rfl) ckk rfl))).trans e,r0,r1,⟨cells,(j:Int)+1,0,c+1,_,rfl,by omega,by omega,s2',s3,by omega,by omega⟩⟩
 .have tt:zj (sT (s2 hEq (s2 gIx (sV 0) (sI 2)) (sI 0))) (sT (s2 gLt (s2 gIx (sV 0) (sI 1)) (sA my (aa (s2 gIx (sV 0) (sI 0)) aq)))) [some (.ref 0),some (.int m),none,none] [so cells a l (c+1) s]=.ok false [so cells a l (c+1) s]:=by
   by_cases hl:l=0
   .exact a4f (t2s (mz rfl x2) ckk (vm hl)) (t2s (mz rfl x1) (m9 (mz rfl x0) (a2w.trans (by rw[aE]))) (a8u λz=>hA ⟨hl,z⟩))
   .exact a5j (t2s (mz rfl x2) ckk (ux hl))
  by_cases hC:0<l
  .exact⟨l%m,_,(ah toR (wj (u3 rfl))).trans ((ah toR (ifN tt)).trans (e1 hC)),dO _ (by omega),cV _ m0,⟨cells,a,l / m,c+1,s,rfl,a0,Int.ediv_nonneg (by omega) (by omega),s0,s1,by omega,by omega⟩⟩
  .have:l=0:=by omega
   subst this;obtain⟨r,r0,r1,e⟩:=e2 (a:=a) (t2:=none) s0 s1;exact⟨r,_,(ah toR (wj (u3 rfl))).trans ((ah toR (ifN tt)).trans e),r0,r1,⟨cells,a,0,c+1,s,rfl,a0,by omega,s0,s1,by omega,by omega⟩⟩
theorem ac6(P:Src o N)(hN:N<=1000000000)(m0:0<m)(m1:m<1073741824):∃r o',Dr aj 2 [.int m] o (.int r) o'/\0<=r/\r<m/\Src o' (N+1):=by
 obtain⟨r,o',e,r0,r1,P'⟩:=ai7 P hN m0 m1;refine⟨r,o',Dr.of rfl (by simp[bz]) P.clo e (je (bz _) ?_) (bz _) P'.clo,r0,r1,P'⟩
 intro u hu
 simp at hu
 subst hu;exact wz (by omega) P'.clo
end SRC
namespace SRC
open L2 MI AT HND EVX
def j7:SF:=jw ye 2
theorem ints_map:∀l:List Int,a9z (l.map D.int)=some l
 |[]=>rfl
 |a::l=>by rw[b6];simp only[a9z,ints_map l,fZ]
theorem b2m(e:k τ h=.ok ds h1)(eg:g ds h1=.ok d h2):sA g k τ h=.ok d h2:=by
 unfold sA;rw[e,bc,eg]
noncomputable def cell(x:Int):Int:=2*b08 x+(if decide (x<0)=true then 1 else 0)
theorem ai8(ns:List Int)(h:Hd):∃o,Src o 0/\j8 true 1 j7 [.scr (ns.map D.int)] h=.ok (.ref h.length) (h++[o]):=by
 have cl:clos 0 ((ns.take 63).map D.int):=gf λx _=>bz x;have z1:sZ (a2g (sV 0) oN (oS (sI 63))) [some (.scr (ns.map D.int)),none] []=.ok (.rol ((ns.take 63).map D.int)) []:=by
  refine a5i (by
   show gSl (.scr (ns.map D.int)) none (some ((63:Nat):Int)) []=_;unfold gSl;simp only[ab6,List.map_take]) cl (by simp)
 have z2:sZ (qi (sIt (sZ (a2g (sV 0) oN (oS (sI 63))))) t1 vf []) [some (.scr (ns.map D.int)),none] []=.ok (.rol ((ns.take 63).map λx=>D.int (cell x))) []:=by
  refine a5i (zy D.int (λx=>D.int (cell x)) (ns.take 63) (a7t z1 rfl) (dh (by simp;omega)) λx _=>?_) (gf λx _=>bz _) (by simp)
  rw[yo];unfold vf;exact jq (jq ckk (m9 (au rfl) (aha _ _)) (a2o.trans (ai (.inl ⟨by decide,by decide⟩)))) (m9 (mz rfl rfl) rfl) a07
 have em:((ns.take 63).map λx=>D.int (cell x))=((ns.take 63).map cell).map D.int:=by rw[cK];rfl
 rw[em]at z2
 generalize (ns.take 63).map cell=cs at z2
 have e:j7 [.scr (ns.map D.int)] []=.ok (.ref 0) [.lst [.rol (cs.map D.int),.int 0,.int 0,.int 0,.int (cs.sum%2147483647)]]:=by
  unfold j7;rw[dm];show toR (ye [some (.scr (ns.map D.int)),none] [])=_;unfold ye;refine etr (jr z2) ?_;have su:a76 [.rol (cs.map D.int)] []=.ok (.int cs.sum) []:=by unfold a76;simp only[ints_map]
  exact ah toR (fu (b2m (a0u (au rfl) (a0u ckk (a0u ckk (a0u ckk (a0u (jq (m9 (au rfl) su) ckk (a5e (by decide))) rfl))))) rfl))
 have P:Src (.lst [.rol (cs.map D.int),.int 0,.int 0,.int 0,.int (cs.sum%2147483647)]) 0:=⟨cs,0,0,0,_,rfl,by decide,by decide,dO _ (by decide),cV _ (by decide),by decide,by decide⟩
 exact⟨_,P,aut rfl (by simpa[MI.clo] using (gf λx _=>bz x:clos 0 (ns.map D.int))) e rfl P.clo h⟩
def bw:SF:=jw xf 1
theorem a3z:Pu bw 0 [] (.str (S sig)):=HND.a3z
def j9:SF:=jw (yf aj bw) 5
theorem ano{a b:List Nat}(l:a.length+b.length<=LINE):a1m (.str (S a)) (.str (S b)) h=.ok (.str (S (a++b))) h:=by
 have:=a8p (h:=h) l
 simpa[a1m,gw,b1a] using this
theorem alw(e:f τ h=.ok (.int i) h1):oS f τ h=.ok (some i) h1:=by unfold oS;rw[e];rfl
theorem alx(e:f τ h=.ok d h1)(e1:lo τ h1=.ok a h2)(e2:hi τ h2=.ok b h3)(e3:ada d a b h3=.ok v h4):a2g f lo hi τ h=.ok v h4:=by
 unfold a2g;rw[e,bc,e1,bc,e2,bc,e3]
theorem ai9(P:Src o N)(hN:N<=999999000):∃l o',Tongue l/\Dr j9 1 [] o (.str (S l)) o'/\Src o' (N+7):=by
 obtain⟨r0,o1,e1,r0a,r0b,P1⟩:=ac6 (m:=6) P (by omega) (by decide) (by decide)
 have lo:=a1a (g:=kN 3) (b:=vg aj bw) (λi:Nat=>D.int (0+(i:Nat)))
  (λpre τ h=>∃(aG told:List Nat) (u:O) (t3 t4:Option D),τ=[some (.ref 0),some (.str (S aG)),some (.str (S told)),t3,t4]/\h=[u]/\Src u (N+1+pre.length)/\told.length=pre.length/\(told++aG).length=95/\(told++aG).Nodup/\∀c∈told++aG,c∈sig)
  (List.range (1+r0).toNat) [some (.ref 0),some (.str (S sig)),some (.str (S [])),none,none] [o1] ?_
  ⟨sig,[],o1,none,none,rfl,rfl,P1,rfl,by simp[a8v],by simpa using avp,by simp⟩
 .obtain⟨τ',h',e2,aG,told,u,t3,t4,rfl,rfl,P2,l1,l2,nd,sb⟩:=lo;rw[bL]at P2 l1;have T:Tongue told:=⟨by omega,by omega,(bC.mp nd).1,λc hc=>sb c (dU _ hc)⟩
  refine⟨told,u,T,Dr.of rfl (by simp) P.clo (r:=.ok (.str (S told)) [u]) ?_ (je (cj _) (by simpa using wz (by omega) P2.clo)) (cj _) P2.clo,P2.up (by omega)⟩
  unfold j9;rw[dm];show toR (yf aj bw [some (.ref 0),none,none,none,none] [o])=_;unfold yf;have c2:j8 false 2 aj [.ref 0,.int 6] [o]=.ok (.int r0) [o1]:=e1 0 [o] rfl;have bd:B62 (1+r0):=by unfold B62;omega
  refine ets (ax7 (a3z _)) ?_;refine etr (jr ckk) ?_;have it:sRg a0l (aa (s2 gw (sI 1) (sA (j8 false 2 aj) (aa (sV 0) (aa (sI 6) aq)))) aq) [some (.ref 0),some (.str (S sig)),some (.str ""),none,none] [o]=.ok ⟨rng 0 (1+r0).toNat,λ_=>True⟩ [o1]:=by
   unfold sRg;rw[arg1 (jq ckk (kj (au rfl) ckk c2) a07),bc];exact ai bd
  refine etr (a79 it) ?_;refine ar (ah (λz=>toR (MI.thn z _)) e2) ?_;exact ah toR (fu (au rfl))
 .rintro pre i post τ h all ⟨aG,told,u,t3,t4,rfl,rfl,P2,l1,l2,nd,sb⟩
  have aH:pre.length<(1+r0).toNat:=by
   have:=ah List.length all
   simp at this;omega
  rw[a9]at l2;obtain⟨r,u',e2,ra,rb,P3⟩:=ac6 (m:=(aG.length:Nat)) P2 (by omega) (by omega) (by omega)
  obtain⟨j,rfl⟩:=eA ra;have hj:j<aG.length:=by omega
  have gx:aG[j]? = some aG[j]:=a6 hj;have pp:=aaj told aG j aG[j] gx;refine⟨_,_,rfl,_,_,?_,aG.take j++aG.drop (j+1),told++[aG[j]],u',some (.int (0+(i:Nat))),some (.int (j:Nat)),rfl,rfl,by simpa[gv] using P3,by simp[l1],?_,pp.nodup_iff.mp nd,λc hc=>sb c (pp.mem_iff.mpr hc)⟩
  .unfold vg;have L:∀n:Nat,n<=95->n<=LINE:=λn hn=>by show n<=16777216;omega
   have c2:=e2 0 [u] rfl;have x1:∀h,gIx (.str (S aG)) (.int (j:Nat)) h=.ok (.str (S [aG[j]])) h:=λh=>aj1 (L _ (by omega)) gx
   have x2:∀h,my [.str (S aG)] h=.ok (.int aG.length) h:=λh=>a78 (L _ (by omega))
   have x3:∀h,a1m (.str (S told)) (.str (S [aG[j]])) h=.ok (.str (S (told++[aG[j]]))) h:=λh=>ano (L _ (by simp;omega))
   have x4:∀h,ada (.str (S aG)) none (some (j:Int)) h=.ok (.str (S (aG.take j))) h:=λh=>avb j (L _ (by omega))
   have x5:∀h,ada (.str (S aG)) (some ((j:Int)+1)) none h=.ok (.str (S (aG.drop (j+1)))) h:=λh=>adl (j+1) (L _ (by omega))
   have x6:∀h,gw (.str (S (aG.take j))) (.str (S (aG.drop (j+1)))) h=.ok (.str (S (aG.take j++aG.drop (j+1)))) h:=λh=>a8p (L _ (by simp;omega))
   have c2:j8 false 2 aj [.ref 0,.int (aG.length:Nat)] [u]=.ok (.int (j:Nat)) [u']:=c2;refine ar (jr (kj (au rfl) (m9 (au rfl) (x2 _)) c2)) ?_;refine ar (wj (abv rfl (jq (au rfl) (au rfl) (x1 _)) (x3 _))) ?_;exact aqh (jq (alx (au rfl) rfl (alw (au rfl)) (x4 _)) (alx (au rfl) (alw (mz rfl a07)) rfl (x5 _)) (x6 _))
  .rw[<-pp.length_eq];simpa using l2
end SRC
namespace PN
open L2 MI AT HND EVX
end PN
namespace SRC
open L2 MI AT HND EVX
theorem b2n(e1:c τ h=.ok true h1)(e2:f τ h1=r):agc c f g τ h=r:=by unfold agc;rw[e1,bc,ai rfl];exact e2
theorem b2o(e1:c τ h=.ok false h1)(e2:g τ h1=r):agc c f g τ h=r:=by unfold agc;rw[e1,bc,aL (by simp)];exact e2
end SRC
namespace BF
noncomputable def walk(step:Nat->Nat->Nat)(r:Nat):List Nat->Nat
 |[]=>r
 |c::p=>step (walk step r p) c
section
variable(s:Nat)(step:Nat->Nat->Nat)(K:Nat->Bool)
noncomputable def fl:Nat->Nat->Bool
 |0,r=>K r
 |k+1,r=>(List.range s).any λc=>fl k (step r c)
variable{s step K}
end
end BF
namespace SRC
open L2 MI AT HND EVX
abbrev cst(l:List Nat):List Int:=l.map λx:Nat=>(x:Int)
end SRC
namespace PN
open L2 MI AT HND EVX
end PN
namespace K76
open L2 MI AT HND
theorem aw5:∀ls:List (List Nat),Txt.join (S []) (ls.map S)=S ls.flatten:=by
 have e:∀zs:List Str,Txt.join (S []) zs=Str.join (S []) zs:=PySem.StrLaws.glued_eq_join (S []);have st:∀(x y:Str) (r:List Str),Str.join (S []) (x::y::r)=x++S []++Str.join (S []) (y::r):=λ_ _ _=>rfl
 intro ls
 rw[e]
 induction ls with
 |nil=>rfl
 |cons l ls ih =>
  cases ls with
  |nil=>rw[b6,cN,bW,List.flatten_nil,bP];rfl
  |cons m ls =>
   rw[b6,b6,st,<-b6,ih,aqe,aqe,bP,bW (l:=l)]
theorem anp:∀ls:List (List Nat),abg (ls.map λl=>D.str (S l))=some (ls.map S)
 |[]=>rfl
 |l::ls=>by
  show(abg (ls.map λl=>D.str (S l))).map _=_;rw[anp ls];rfl
theorem b2p(ls:List (List Nat)):((ls.map S).map (·.length)).sum=ls.flatten.length:=by
 induction ls with
 |nil=>rfl
 |cons l ls ih=>rw[b6,b6,dS,ih,bW,a9,a77]
theorem anq{ls:List (List Nat)}(z:ls.flatten.length<=1000000):abh (.str (S [])) [.rol (ls.map λl=>.str (S l))] h=.ok (.str (S ls.flatten)) h:=by
 unfold abh;simp only[anp,b2p,a77,bg,Nat.mul_zero,Nat.add_zero,aw5];rw[ai (by omega)]
theorem axe(e1:f τ h=.ok (.str z) h1)(e2:k τ h1=.ok ds h2)(e3:g (.str z) ds h2=.ok v h3):sMS g f k τ h=.ok v h3:=by
 unfold sMS;rw[e1,bc];dsimp only;rw[e2,bc,e3]
end K76
namespace ENG
open L2 MI
abbrev Rl:=Nat->Nat->Prop
open Classical in
def fl(n:Nat)(R:Rl)(a:Nat):List Nat:=(List.range (n+1)).filter λe=>decide (R a e)
def cmp(P R:Rl):Rl:=λa e=>∃b,P a b/\R b e
noncomputable def pw(R:Rl):Nat->Rl
 |0=>(· = ·)
 |k+1=>cmp (pw R k) R
end ENG
namespace SHD
open L2 MI AT HND EVX
open PAP hiding a0u a5s a7b a6r aof
def Dr2(F:SF)(n:Nat)(ds:List D)(o p:O)(d:D)(o' p':O):Prop:=∀i j h,i≠j->h[i]? = some o->h[j]? = some p->j8 false n F (.ref i::.ref j::ds) h=.ok d ((h.set i o').set j p')
theorem Dr2.of{F:SF}{n:Nat}{ds:List D}{o o' p p':O}{r:R D}{d:D}(hn:ds.length+2=n)(cd:∀x∈ds,clo 0 x)(co:wg 0 o)(cp:wg 0 p)(e:F (.ref 0::.ref 1::ds) [o,p]=r)(z:aa2 2 r=.ok d [o',p'])(c:clo 0 d)(co':wg 0 o')(cp':wg 0 p'):Dr2 F n ds o p d o' p':=λi j h ne hi hj=>by
 obtain⟨p1,_,p3⟩:=a3r cd;have e1:a0y (.ref i::.ref j::ds)=[i,j]:=by
  have:a0y (.ref i::.ref j::ds)=i::j::a0y ds:=rfl
  rw[this,p1]
 have e2:a0d 0 (.ref i::.ref j::ds)=.ref 0::.ref 1::ds:=by
  have:a0d 0 (.ref i::.ref j::ds)=.ref 0::.ref 1::a0d 2 ds:=rfl
  rw[this,p3]
 unfold j8;rw[ai (by simpa using hn)]
 unfold an4;rw[e1];simp only[a1h,hi,hj,aM,bg,c4,dQ,eK,Nat.reduceAdd];have all:∀x∈(D.ref i::.ref j::ds),clo 0 x\/isRef x:=λx hx=>by
  rcases aV.mp hx with rfl|hx
  .exact .inr ⟨i,rfl⟩
  rcases aV.mp hx with rfl|hx
  .exact .inr ⟨j,rfl⟩
  .exact .inl (cd x hx)
 rw[ai ⟨by simp[ne],all,λu hu=>by simp only[aV,c8,eF]at hu;rcases hu with rfl|rfl;exact co;exact cp⟩,e2,e,z]
 simp[c,co',cp',uv]
theorem az6{F:SF}{n:Nat}{ds:List D}{o o' p p':O}{d:D}{h:Hd}(q:Dr2 F n ds o p d o' p'):j8 false n F (.ref 0::.ref 1::ds) (o::p::h)=.ok d (o'::p'::h):=q 0 1 (o::p::h) (by decide) rfl rfl
inductive Sh where
 |one (s:List Nat)|row (ps:List Sh)|eit (ps:List Sh)|many (p:Sh)|tim (p:Sh) (lo hi:Nat)
mutual
def sd:Sh->D
 |.one s=>.tup [.str "one",.str (S s)]
 |.row ps=>.tup [.str "row",.tup (sds ps)]
 |.eit ps=>.tup [.str "either",.tup (sds ps)]
 |.many p=>.tup [.str "many",sd p]
 |.tim p lo hi=>.tup [.str "times",sd p,bj lo,bj hi]
def sds:List Sh->List D
 |[]=>[]
 |p::ps=>sd p::sds ps
end
theorem a0f:∀ps,sds ps=ps.map sd
 |[]=>by rw[sds];rfl
 |p::ps=>by rw[sds,a0f ps];rfl
def a2c(tg:List Nat):Nat->Sh->Prop
 |0,_=>False
 |n+1,s=>match s with
  |.one s=>1<=s.length/\s.length<=6/\∀c∈s,c∈tg
  |.row ps=>ps.length<=6/\∀p∈ps,a2c tg n p
  |.eit ps=>1<=ps.length/\ps.length<=6/\∀p∈ps,a2c tg n p
  |.many p=>a2c tg n p
  |.tim p lo hi=>lo<=hi/\hi<=4/\a2c tg n p
mutual
theorem a2d:∀p,MI.clo 0 (sd p)
 |.one s=>by rw[sd];exact gh (ak (cj _) (ak (cj _) bx))
 |.row ps=>by rw[sd];exact gh (ak (cj _) (ak (gh (ac8 ps)) bx))
 |.eit ps=>by rw[sd];exact gh (ak (cj _) (ak (gh (ac8 ps)) bx))
 |.many p=>by rw[sd];exact gh (ak (cj _) (ak (a2d p) bx))
 |.tim p lo hi=>by rw[sd];exact gh (ak (cj _) (ak (a2d p) (ak (bz _) (ak (bz _) bx))))
theorem ac8:∀ps,clos 0 (sds ps)
 |[]=>by rw[sds];exact bx
 |p::ps=>by rw[sds];exact ak (a2d p) (ac8 ps)
end
def bnd:Nat->Nat
 |0=>200
 |d+1=>7*bnd d
theorem anr:∀d,200<=bnd d
 |0=>by decide
 |d+1=>by have:=anr d;rw[bnd];omega
theorem ant:∀{d e:Nat},d<=e->bnd d<=bnd e
 |d,0,h=>by cases Nat.le_zero.mp h;exact a8 _
 |d,e+1,h=>by
  by_cases q:d=e+1
  .rw[q];exact a8 _
  .have:=ant (d:=d) (e:=e) (by omega);rw[bnd];omega
theorem aia{tg:List Nat}:∀{n:Nat} {s:Sh},a2c tg n s->a2c tg (n+1) s
 |0,_,h=>h.elim
 |n+1,.one s,h=>h
 |n+1,.row ps,h=>⟨h.1,λp hp=>aia (h.2 p hp)⟩
 |n+1,.eit ps,h=>⟨h.1,h.2.1,λp hp=>aia (h.2.2 p hp)⟩
 |n+1,.many p,h=>aia (n:=n) (s:=p) h
 |n+1,.tim p lo hi,h=>⟨h.1,h.2.1,aia h.2.2⟩
theorem a8y(x:Int):wg 0 (.lst [.int x]):=ak (bz _) bx
theorem aib{o p:O}(c:wg 0 o)(c':wg 0 p):∀u∈[o,p],wg 0 u:=λu hu=>by
 simp only[aV,c8,eF]at hu
 rcases hu with rfl|rfl
 .exact c
 .exact c'
theorem b0i{d:D}{o p:O}{h:Hd}(c:MI.clo 0 d)(co:wg 0 o)(cp:wg 0 p):aa2 2 (.ok d (o::p::h))=.ok d [o,p]:=je (a7p (by omega) c) (by
 intro u hu
 simp only[List.take_succ_cons,fz]at hu;exact wz (by omega) (aib co cp u hu))
theorem b0j{a b c d:D}{h:Hd}:MI.jl [a,b,c,d] h=.ok (.tup [a,b,c,d]) h:=by unfold MI.jl;rw[ai (dh (by simp))]
theorem a8z{xs:List D}{h:Hd}:uc [.rol xs] h=.ok (.tup xs) h:=rfl
theorem ixp{o:O}{v:D}{h:Hd}:gIx (.ref 1) (.int 0) (o::.lst [v]::h)=.ok v (o::.lst [v]::h):=rfl
theorem subn{n:Nat}{h:Hd}:MI.a4e (.int ((n+1:Nat):Int)) (.int 1) h=.ok (bj n) h:=by
 rw[vo,show((n+1:Nat):Int)-1=(n:Int) by omega]
theorem aqr{x y:Int}{h:Hd}:gw (.int x) (.int y) h=.ok (.int (x+y)) h:=rfl
section
variable{a b c d:D}{xs:List D}{h:Hd}
theorem ix0:gIx (.tup (a::xs)) (.int 0) h=.ok a h:=aae (j:=0) rfl
theorem ix1:gIx (.tup (a::b::xs)) (.int 1) h=.ok b h:=aae (j:=1) rfl
theorem ix3:gIx (.tup (a::b::c::d::xs)) (.int 3) h=.ok d h:=aae (j:=3) rfl
theorem axf{x:Str}:hEq (.str x) (.str x) h=.ok (.bl true) h:=by rw[alf,cM]
theorem axg{x y:Str}(e:(x == y)=false):hEq (.str x) (.str y) h=.ok (.bl false) h:=by rw[alf,e]
theorem axh{x y:Str}(e:(x == y)=false):hNe (.str x) (.str y) h=.ok (.bl true) h:=by rw[avc,e];rfl
theorem axi{x:Str}:hNe (.str x) (.str x) h=.ok (.bl false) h:=by rw[avc,cM];rfl
end
inductive All2 {α β:Type} (Q:α->β->Prop):List α->List β->Prop
 |nil:All2 Q [] []
 |cons {x:α} {y:β} {xs:List α} {ys:List β} (h:Q x y) (t:All2 Q xs ys):All2 Q (x::xs) (y::ys)
theorem All2.snoc{α β:Type}{Q:α->β->Prop}{x:α}{y:β}(h:Q x y):∀{xs:List α} {ys:List β},All2 Q xs ys->All2 Q (xs++[x]) (ys++[y])
 |_,_,.nil=>.cons h .nil
 |_,_,.cons q t=>.cons q (All2.snoc h t)
theorem All2.len{α β:Type}{Q:α->β->Prop}:∀{xs:List α} {ys:List β},All2 Q xs ys->ys.length=xs.length
 |_,_,.nil=>rfl
 |_,_,.cons _ t=>by rw[aM,aM,t.len]
theorem All2.rt{α β:Type}{Q:α->β->Prop}:∀{xs:List α} {ys:List β},All2 Q xs ys->∀y∈ys,∃x∈xs,Q x y
 |_,_,.nil,y,hy=>by cases hy
 |_,_,.cons q t,y,hy=>by
  rcases aV.mp hy with rfl|hy
  .exact⟨_,aX,q⟩
  .obtain⟨x,hx,q⟩:=t.rt y hy;exact⟨x,aP _ hx,q⟩
noncomputable def hn:Nat->Str
 |0 => "row"
 |1 => "many"
 |_ => "times"
end SHD
namespace ENG
open L2 MI AT HND EVX SHD
open PAP hiding a0u a5s a7b a6r aof
open SRC (cst)
abbrev lsD(l:List Nat):D:=.rol (l.map bj)
theorem a4b(l:List Nat):(l.map λc=>[c]).flatten=l:=by
 induction l with
 |nil=>rfl
 |cons c l ih=>rw[b6,bW,ih];rfl
end ENG
namespace DRW
open L2 MI AT HND EVX SHD
open PAP hiding a0u a5s a7b a6r aof
open SRC (Src)
open SRC (cst)
open ENG
local macro_rules|`(tactic|walk_at "c") => `(tactic|first|assumption|exact bz _|(with_reducible exact EVT.uo)|exact cj _|exact ud _|exact qj|exact bx|((with_reducible apply ak)<;>walk_at "c")|((with_reducible apply gh);walk_at "c")|((with_reducible apply v7);walk_at "c")|((with_reducible apply EVT.p6)<;>walk_at "c")|((with_reducible apply EVT.nj);walk_at "c")|((with_reducible apply EVT.nq);walk_at "c")|((with_reducible apply EVT.um);walk_at "c")|((with_reducible apply EVT.qg);walk_at "c")|((with_reducible apply EVT.uq)<;>walk_at "c")|exact gf fun _ _=>bz _|exact gf fun _ _=>cj _)
local macro_rules|`(tactic|walk_at "h") => `(tactic|first|assumption|exact nlc|exact EVT.vz (by assumption))
local macro_rules|`(tactic|walk_at "z") => `(tactic|first|assumption|omega|(simp only[aM,bg,a9,aR,aY,aE,ay,EVT.yr,Int.reduceToNat]<;>omega))
local macro_rules|`(tactic|walk_at "l") => `(tactic|first
 |(with_reducible assumption)
 |(with_reducible exact a7b)|(with_reducible exact a5s)|(with_reducible exact yt)|(with_reducible exact a95)
 |(with_reducible exact ltn)|((with_reducible apply EVT.PuE);with_reducible assumption)
 |((with_reducible apply drz);with_reducible assumption)
 |(with_reducible exact PAP.aby _ _ _)|(with_reducible exact PAP.yu _ _ _)
 |((with_reducible apply PAP.a0e);walk_at "z")
 |((with_reducible apply EVT.a5l);walk_at "z")
 |((with_reducible apply EVT.a5m);walk_at "z")
 |(with_reducible exact vo _ _)|(with_reducible exact a2y _)|(with_reducible exact di _)
 |((with_reducible apply aas);walk_at "z")|((with_reducible apply a8u);walk_at "z")
 |((with_reducible apply ado);walk_at "z")|((with_reducible apply adp);walk_at "z")
 |((with_reducible apply vm);walk_at "z")|((with_reducible apply ux);walk_at "z")
 |((with_reducible apply a5k);walk_at "z")|((with_reducible apply a4s);walk_at "z")
 |exact rfl)
local macro_rules|`(tactic|walk_at "x") => `(tactic|first
 |(with_reducible assumption)
 |(with_reducible exact a70 _ _ _)
 |((with_reducible apply au);exact rfl)
 |(with_reducible exact nlo)|(with_reducible exact onn)
 |((with_reducible apply zds);walk_at "x";exact rfl;walk_at "c";walk_at "h";walk_at "z")
 |((with_reducible apply EVT.xq);walk_at "x";exact rfl;walk_at "c";walk_at "h")
 |((with_reducible apply EVT.yq);walk_at "x";exact rfl;walk_at "h";walk_at "z")
 |((with_reducible apply EVT.a1f);walk_at "x";walk_at "x";exact rfl;walk_at "c";walk_at "c";walk_at "h";walk_at "z")
 |((with_reducible apply EVT.a1g);walk_at "x";walk_at "x";exact rfl;walk_at "c";walk_at "h";walk_at "z";walk_at "z")
 |((with_reducible apply EVT.a0v);walk_at "h")
 |((with_reducible apply jq);walk_at "x";walk_at "x";walk_at "l")
 |((with_reducible apply aar);walk_at "x";walk_at "l")
 |((with_reducible apply aoo);walk_at "x";walk_at "l")
 |((with_reducible apply cns);walk_at "x";walk_at "x")
 |((with_reducible apply a5r);walk_at "x";walk_at "x";walk_at "x";walk_at "l")
 |((with_reducible apply a5f);walk_at "x")
 |((with_reducible apply tof);walk_at "x")
 |((with_reducible apply j5);walk_at "x";walk_at "l")
 |((with_reducible apply rm);walk_at "x")|((with_reducible apply a0r);walk_at "x")
 |((with_reducible apply a4f);walk_at "x";walk_at "x")|((with_reducible apply a5j);walk_at "x")
 |((with_reducible apply orT);walk_at "x")|((with_reducible apply orF);walk_at "x";walk_at "x"))
local macro_rules|`(tactic|walk_at "l") => `(tactic|first|(with_reducible exact SHD.ix0)|(with_reducible exact SHD.ix1)|(with_reducible exact SHD.ix3)|(with_reducible exact SHD.axf)|((with_reducible apply SHD.axg);exact(by decide))|(with_reducible exact SHD.axi)|((with_reducible apply SHD.axh);exact(by decide))|(with_reducible exact SHD.aqr)|(with_reducible exact SHD.a8z))
theorem dw{o:O}{N:Nat}{m:Int}(P:Src o N)(hN:N<=1000000000)(m0:0<m)(m1:m<1073741824):∃(r:Nat) (o':O),Dr SRC.aj 2 [.int m] o (bj r) o'/\(r:Int)<m/\Src o' (N+1):=by
 obtain⟨r,o',e,r0,r1,P'⟩:=SRC.ac6 P hN m0 m1;obtain⟨r,rfl⟩:=eA r0;exact⟨r,o',e,r1,P'⟩
theorem aat{a b:Nat}{h:Hd}:gw (bj a) (bj b) h=.ok (bj (a+b)) h:=rfl
mutual
def wt:Sh->Nat
 |.one _=>1
 |.row ps=>wts ps
 |.eit ps=>wts ps
 |.many p=>wt p
 |.tim p _ hi=>hi*wt p
def wts:List Sh->Nat
 |[]=>0
 |p::ps=>wt p+wts ps
end
theorem a90:∀(l:List Sh) (s:Sh),wts (l++[s])=wts l+wt s
 |[],s=>by rw[bR,wts,wts,wts];omega
 |p::l,s=>by rw[eP,wts,wts,a90 l s];omega
theorem aic:∀l:List Sh,((l.map λs=>(wt s:Int)).sum)=(wts l:Nat)
 |[]=>by rw[wts];rfl
 |p::l=>by rw[b6,dS,aic l,wts];omega
mutual
def pn:Sh->Nat
 |.one _=>1
 |.row ps=>1+pns ps
 |.eit ps=>1+pns ps
 |.many p=>1+pn p
 |.tim p _ _=>1+pn p
def pns:List Sh->Nat
 |[]=>0
 |p::ps=>pn p+pns ps
end
theorem aid:∀(l:List Sh) (s:Sh),pns (l++[s])=pns l+pn s
 |[],s=>by rw[bR,pns,pns,pns];omega
 |p::l,s=>by rw[eP,pns,pns,aid l s];omega
def b8:Nat->SF
 |0=>λ_ _=>.no
 |n+1=>jw (uw (b8 n)) 1
theorem a6v(x:Str)(h:Hd):gIn false (.str x) (.tup [.str "row",.str "either"]) h=.ok (.bl (("row" : Str) == x || (("either" : Str) == x || false))) h:=rfl
theorem a4c{tg:List Nat}:∀(d n:Nat),d<=n->∀s,a2c tg d s->Pu (b8 n) 1 [sd s] (bj (wt s))
 |0,_,_,_,k=>k.elim
 |d+1,0,h,_,_=>absurd h (by omega)
 |d+1,n+1,h,s,k=>by
  have ih:=a4c (tg:=tg) d n (by omega)
  refine Pu.of rfl (by simp[a2d]) (r:=.ok (bj (wt s)) []) ?_ (je (bz _) (by simp)) (bz _)
  show jw (uw (b8 n)) 1 [sd s] []=_;rw[dm];show toR (uw (b8 n) [some (sd s)] [])=_;unfold uw;have many:∀(hd:Str) (ps:List Sh),(∀p∈ps,a2c tg d p)->ps.length<=6->sA a76 (aa (sZ (qi (sIt (s2 gIx (sV 0) (sI 1))) MI.t1 (qp (b8 n)) [])) aq) [some (.tup [.str hd,.tup (sds ps)])] []=.ok (bj (wts ps)) []:=λhd ps kp lp=>by
   have z:sZ (qi (sIt (s2 gIx (sV 0) (sI 1))) MI.t1 (qp (b8 n)) []) [some (.tup [.str hd,.tup (sds ps)])] []=.ok (.rol ((ps.map λs=>(wt s:Int)).map D.int)) []:=by
    refine a5i ?_ (gf λ_ _=>bz _) (by simp)
    rw[cK];refine zy sd (λs=>D.int (wt s:Int)) ps (a7t (mz rfl rfl) (by rw[a0f];rfl)) (dh (by omega)) λp hp=>?_
    rw[yo];unfold qp;exact m9 (au rfl) (ih p (kp p hp) [])
   refine m9 z ?_;unfold a76;simp only[SRC.ints_map,aic]
  match s,k with
  |.one sg,k =>
   rw[sd,wt];exact ah toR (jx (ar (ifT (by walk_at "x")) (fu ckk)))
  |.row ps,k =>
   rw[sd,wt];refine eti (by walk_at "x") ?_
   exact ah toR (jx (ifr (t2s (mz rfl SHD.ix0) (kj ckk ckk yt) (a6v _ _)) (many _ ps k.2 k.1)))
  |.eit ps,k =>
   rw[sd,wt];refine eti (by walk_at "x") ?_
   exact ah toR (jx (ifr (t2s (mz rfl SHD.ix0) (kj ckk ckk yt) (a6v _ _)) (many _ ps k.2.2 k.2.1)))
  |.many p,k =>
   rw[sd,wt];have c1:=ih p k;refine eti (by walk_at "x") ?_
   refine eti (t2s (mz rfl SHD.ix0) (kj ckk ckk yt) (a6v _ _)) ?_;exact ah toR (jx (ifr (by walk_at "x") (by walk_at "x")))
  |.tim p lo hi,k =>
   rw[sd,wt];have c1:=ih p k.2.2;have h4:=k.2.1;refine eti (by walk_at "x") ?_
   refine eti (t2s (mz rfl SHD.ix0) (kj ckk ckk yt) (a6v _ _)) ?_;refine eti (by walk_at "x") ?_
   have m:yw (bj hi) (bj (wt p)) []=.ok (bj (hi*wt p)) []:=a2o.trans ((ai (.inl ⟨by omega,by omega⟩)).trans (by rw[<-Int.natCast_mul]))
   exact ah toR (fu (jq (mz rfl SHD.ix3) (m9 (mz rfl SHD.ix1) (c1 _)) m))
def lu:SF:=jw (a0p SRC.aj) 7
theorem aqs{tg:List Nat}(t1:1<=tg.length)(t6:tg.length<=6)(nd:tg.Nodup){o:O}{N:Nat}(P:Src o N)(hN:N<=999999000):∃l o',1<=l.length/\l.length<=tg.length/\l.Nodup/\(∀c∈l,c∈tg)/\Dr lu 2 [.str (S tg)] o (.str (S l)) o'/\Src o' (N+8):=by
 have lt:∀h,my [.str (S tg)] h=.ok (bj tg.length) h:=λh=>a78 (dh (by omega))
 obtain⟨many,o1,m1,m6,P1,pre⟩:∃(many:Nat) (o1:O),1<=many/\many<=tg.length/\Src o1 (N+2)/\∀g:SS,gj (sIf (sT (s2 hEq (sA (j8 false 2 SRC.aj) (aa (sV 0) (aa (sI 2) aq))) (sI 0))) (jm 4 (s2 gw (sI 1) (sA (j8 false 2 SRC.aj) (aa (sV 0) (aa (sA my (aa (sV 1) aq)) aq))))) sNx) g [some (.ref 0),some (.str (S tg)),some (.str (S tg)),some (.str (S [])),some (.int 1),none,none] [o]=g [some (.ref 0),some (.str (S tg)),some (.str (S tg)),some (.str (S [])),some (bj many),none,none] [o1]:=by
  obtain⟨q,u,e,_,Q⟩:=dw (m:=2) P (by omega) (by decide) (by decide)
  by_cases hq:q=0
  .obtain⟨r,u',e',r1,Q'⟩:=dw (m:=(tg.length:Int)) Q (by omega) (by omega) (by omega)
   refine⟨1+r,u',by omega,by omega,Q',λg=>wj (ar (ifT (t2s (kj (au rfl) ckk (e 0 _ rfl)) ckk (vm (by omega)))) (aqh (jq ckk (kj (au rfl) (m9 (au rfl) (lt _)) (e' 0 _ rfl)) aat)))⟩
  .exact⟨1,u,by omega,by omega,Q.up (by omega),λg=>ifN (t2s (kj (au rfl) ckk (e 0 _ rfl)) ckk (ux (by omega)))⟩
 obtain⟨τ',h',e2,aG,told,u,t5,t6',rfl,rfl,P2,l1,l2,nd',sb⟩:=a1a (g:=kN 5) (b:=yx SRC.aj) bj
  (λpre τ h=>∃(aG told:List Nat) (u:O) (t5 t6:Option D),τ=[some (.ref 0),some (.str (S tg)),some (.str (S aG)),some (.str (S told)),some (bj many),t5,t6]/\h=[u]/\Src u (N+2+pre.length)/\told.length=pre.length/\(told++aG).length=tg.length/\(told++aG).Nodup/\∀c∈told++aG,c∈tg)
  (List.range many) [some (.ref 0),some (.str (S tg)),some (.str (S tg)),some (.str (S [])),some (bj many),none,none] [o1] (by
   rintro pre i post τ h al ⟨aG,told,u,t5,t6',rfl,rfl,P2,l1,l2,nd',sb⟩
   have aH:pre.length<many:=by
    have:=ah List.length al
    simp at this;omega
   rw[a9]at l2;obtain⟨j,u',e2,rb,P3⟩:=dw (m:=(aG.length:Int)) P2 (by omega) (by omega) (by omega)
   have hj:j<aG.length:=by omega
   have gx:aG[j]? = some aG[j]:=a6 hj;have pp:=aaj told aG j aG[j] gx;refine⟨_,_,rfl,_,_,?_,aG.take j++aG.drop (j+1),told++[aG[j]],u',some (bj i),some (bj j),rfl,rfl,by simpa[gv] using P3,by simp[l1],?_,pp.nodup_iff.mp nd',λc hc=>sb c (pp.mem_iff.mpr hc)⟩
   .unfold yx;refine ar (jr (kj (au rfl) (m9 (au rfl) (a78 (dh (by omega)))) (e2 0 [u] rfl))) ?_
    refine ar (wj (abv rfl (jq (au rfl) (au rfl) (aj1 (dh (by omega)) gx)) (SRC.ano (dh (by simp;omega))))) ?_
    exact aqh (jq (SRC.alx (au rfl) rfl (SRC.alw (au rfl)) (avb j (dh (by omega)))) (SRC.alx (au rfl) (SRC.alw (mz rfl a07)) rfl (adl (j+1) (dh (by omega)))) (a8p (dh (by simp;omega))))
   .rw[<-pp.length_eq];simpa using l2) ⟨tg,[],o1,none,none,rfl,rfl,P1,rfl,rfl,nd,λc hc=>hc⟩
 rw[bL]at P2 l1;refine⟨told,u,by omega,by omega,(bC.mp nd').1,λc hc=>sb c (dU _ hc),Dr.of rfl (by simp[cj]) P.clo (r:=.ok (.str (S told)) [u]) ?_ (je (cj _) (by simpa using wz (by omega) P2.clo)) (cj _) P2.clo,P2.up (by omega)⟩
 unfold lu;rw[dm];show toR (a0p SRC.aj [some (.ref 0),some (.str (S tg)),none,none,none,none,none] [o])=_;unfold a0p;refine ets (au rfl) ?_;refine etr (jr ckk) ?_;refine etr (jr ckk) ?_;refine etr (pre _) ?_;refine etr (a79 (abt (n:=many) (au rfl) (dh (by omega)))) ?_
 refine ar (ah (λz=>toR (MI.thn z _)) e2) ?_;exact ah toR (fu (au rfl))
mutual
def Nd:Sh->Prop
 |.one s=>s.Nodup
 |.row ps=>Nds ps
 |.eit ps=>Nds ps
 |.many p=>Nd p
 |.tim p _ _=>Nd p
def Nds:List Sh->Prop
 |[]=>True
 |p::ps=>Nd p/\Nds ps
end
theorem aie:∀{l:List Sh} {s:Sh},Nds l->Nd s->Nds (l++[s])
 |[],s,_,h=>by rw[bR,Nds,Nds];exact⟨h,trivial⟩
 |p::l,s,a,h=>by rw[Nds]at a;rw[eP,Nds];exact⟨a.1,aie a.2 h⟩
def Dr5(F:SF)(a b c:D)(o q:O)(d:D)(o' q':O):Prop:=∀i j h,i≠j->h[i]? = some o->h[j]? = some q->j8 false 5 F [.ref i,a,b,c,.ref j] h=.ok d ((h.set i o').set j q')
theorem Dr5.of{F:SF}{x:Str}{y z:Int}{o o' q q':O}{r:R D}{d:D}(co:wg 0 o)(cq:wg 0 q)(e:F [.ref 0,.str x,.int y,.int z,.ref 1] [o,q]=r)(zz:aa2 2 r=.ok d [o',q'])(c:clo 0 d)(co':wg 0 o')(cq':wg 0 q'):Dr5 F (.str x) (.int y) (.int z) o q d o' q':=λi j h ne hi hj=>by
 have e1:a0y [.ref i,.str x,.int y,.int z,.ref j]=[i,j]:=rfl;have e2:a0d 0 [.ref i,.str x,.int y,.int z,.ref j]=[.ref 0,.str x,.int y,.int z,.ref 1]:=rfl;unfold j8;rw[ai (by rfl:([D.ref i,D.str x,D.int y,D.int z,D.ref j]:List D).length=5)]
 unfold an4;rw[e1];simp only[a1h,hi,hj,aM,bg,c4,dQ,eK,Nat.reduceAdd];have all:∀v∈[D.ref i,.str x,.int y,.int z,.ref j],clo 0 v\/isRef v:=λv hv=>by
  simp only[aV,c8,eF]at hv
  rcases hv with rfl|rfl|rfl|rfl|rfl
  .exact .inr ⟨i,rfl⟩
  .exact .inl (cj _)
  .exact .inl (bz _)
  .exact .inl (bz _)
  .exact .inr ⟨j,rfl⟩
 rw[ai ⟨by simp[ne],all,λu hu=>by simp only[aV,c8,eF]at hu;rcases hu with rfl|rfl;exact co;exact cq⟩,e2,e,zz]
 simp[c,co',cq',uv]
theorem b0k{F:SF}{a b c:D}{o o' p p':O}{d:D}{h:Hd}(q:Dr5 F a b c o p d o' p'):j8 false 5 F [.ref 0,a,b,c,.ref 1] (o::p::h)=.ok d (o'::p'::h):=q 0 1 (o::p::h) (by decide) rfl rfl
def cu:Nat->SF
 |0=>λ_ _=>.no
 |n+1=>jw (xg SRC.aj lu (cu n) (b8 5)) 11
def Drawn(tg:List Nat)(n d:Nat):Prop:=∀(o:O) (N p:Nat) (x:Int),Src o N->N+bnd d<=900000000->p<=1000->∃s o',a2c tg d s/\wt s<=p/\Nd s/\Dr5 (cu n) (.str (S tg)) (bj d) (bj p) o (.lst [.int x]) (sd s) o' (.lst [.int (x-pn s)])/\Src o' (N+bnd d)
def Res(tg:List Nat)(d N p:Nat)(x:Int)(r:R D):Prop:=∃s o' hs,r=.ok (sd s) (o'::.lst [.int (x-pn s)]::hs)/\a2c tg d s/\wt s<=p/\Nd s/\Src o' N
theorem Res.tr{tg:List Nat}{d N p:Nat}{x:Int}{r r':R D}(e:r=r')(q:Res tg d N p x r'):Res tg d N p x r:=e ▸ q
theorem Res.to{tg:List Nat}{d N p n:Nat}{o:O}{x:Int}{r:R D}(co:wg 0 o)(e:cu n [.ref 0,.str (S tg),bj d,bj p,.ref 1] [o,.lst [.int x]]=r)(q:Res tg d N p x r):∃s o',a2c tg d s/\wt s<=p/\Nd s/\Dr5 (cu n) (.str (S tg)) (bj d) (bj p) o (.lst [.int x]) (sd s) o' (.lst [.int (x-pn s)])/\Src o' N:=by
 obtain⟨s,o',hs,e',k,w,nd,P⟩:=q;exact⟨s,o',k,w,nd,Dr5.of co (a8y _) (e.trans e') (b0i (a2d s) P.clo (a8y _)) (a2d s) P.clo (a8y _),P⟩
theorem aly{tg:List Nat}{n d p:Nat}{o:O}{x:Int}:cu (n+1) [.ref 0,.str (S tg),bj d,bj p,.ref 1] [o,.lst [.int x]]=toR (xg SRC.aj lu (cu n) (b8 5) [some (.ref 0),some (.str (S tg)),some (bj d),some (bj p),some (.ref 1),none,none,none,none,none,none] [o,.lst [.int x]]):=by
 show jw (xg SRC.aj lu (cu n) (b8 5)) 11 [.ref 0,.str (S tg),bj d,bj p,.ref 1] [o,.lst [.int x]]=_;rw[dm];rfl
theorem ix8(r:Nat)(h:r<8)(h':Hd):∃m:Nat,1<=m/\m<=6/\gIx (.tup [.int 1,.int 2,.int 2,.int 3,.int 3,.int 4,.int 5,.int 6]) (bj r) h'=.ok (bj m) h':=by
 rcases r with _|_|_|_|_|_|_|_|r
 .exact⟨1,by decide,by decide,rfl⟩
 .exact⟨2,by decide,by decide,rfl⟩
 .exact⟨2,by decide,by decide,rfl⟩
 .exact⟨3,by decide,by decide,rfl⟩
 .exact⟨3,by decide,by decide,rfl⟩
 .exact⟨4,by decide,by decide,rfl⟩
 .exact⟨5,by decide,by decide,rfl⟩
 .exact⟨6,by decide,by decide,rfl⟩
 .omega
theorem ixq{o:O}{v:D}{h:Hd}:gIx (.ref 1) (.int 0) (o::.lst [v]::h)=.ok v (o::.lst [v]::h):=rfl
local macro_rules|`(tactic|walk_at "l") => `(tactic|first|((with_reducible apply b0k);with_reducible assumption)|(with_reducible exact ixq)|(with_reducible exact subn)|(with_reducible exact aqr))
theorem a7y{tg:List Nat}(t1:1<=tg.length)(t6:tg.length<=6)(nd:tg.Nodup){n d:Nat}(hd:d<=4)(ih:0<d->Drawn tg n d):Drawn tg (n+1) (d+1):=by
 intro o N p x P hN hp
 have bl:=anr d;have be:bnd (d+1)=7*bnd d:=rfl;refine Res.to P.clo aly ?_;unfold xg;obtain⟨r,o1,e1,r1,P1⟩:=dw (m:=9) P (by omega) (by decide) (by decide)
 have pu:put (.ref 1) (.int 0) (.int (x-1)) [o,.lst [.int x]]=some [o,.lst [.int (x-1)]]:=rfl;refine Res.tr (ah toR (wj (SRC.axd (au rfl) ckk (SRC.ae0 (i:=1) (j:=0) rfl rfl) ckk (vo _ _) pu))) ?_;refine Res.tr (ah toR (jr (by walk_at "x"))) ?_
 by_cases leaf:d=0\/x-1<1\/r=0
 .have c:sOr (sT (s2 hEq (sV 2) (sI 1))) (sOr (sT (s2 gLt (s2 gIx (sV 4) (sI 0)) (sI 1))) (sT (s2 hEq (sV 5) (sI 0)))) [some (.ref 0),some (.str (S tg)),some (bj (d+1)),some (bj p),some (.ref 1),some (bj r),none,none,none,none,none] [o1,.lst [.int (x-1)]]=.ok true [o1,.lst [.int (x-1)]]:=by
   by_cases a:d=0
   .exact orT (by walk_at "x")
   .by_cases b:x-1<1
    .exact orF (by walk_at "x") (orT (by walk_at "x"))
    .have:r=0:=by omega
     exact orF (by walk_at "x") (orF (by walk_at "x") (by walk_at "x"))
  have emp:∀u:O,Src u (N+2)->Res tg (d+1) (N+bnd (d+1)) p x (.ok (sd (.row [])) [u,.lst [.int (x-1)]]):=λu Q=>⟨.row [],u,[],by rw[pn,pns];simp,⟨by simp,by simp⟩,by rw[wt,wts];omega,by rw[Nd,Nds];trivial,Q.up (by omega)⟩
  by_cases p0:p=0
  .refine Res.tr (ah toR (jx (ar (ifT c) (jx (ifr (orT (by walk_at "x")) (by walk_at "x")))))) (emp o1 (P1.up (by omega)))
  .obtain⟨q,o2,e2,q1,P2⟩:=dw (m:=8) P1 (by omega) (by decide) (by decide)
   by_cases q0:q=0
   .refine Res.tr (ah toR (jx (ar (ifT c) (jx (ifr (orF (by walk_at "x") (by walk_at "x")) (by walk_at "x")))))) (emp o2 P2)
   .obtain⟨l,o3,l1,l2,l3,l4,e3,P3⟩:=aqs t1 t6 nd P2 (by omega)
    refine Res.tr (ah toR (jx (ar (ifT c) (ar (ifN (orF (by walk_at "x") (by walk_at "x"))) (fu (by walk_at "x")))))) ?_
    exact⟨.one l,o3,[],by rw[pn];rfl,⟨l1,by omega,l4⟩,by rw[wt];omega,by rw[Nd];exact l3,P3.up (by omega)⟩
 .have d0:¬ d=0:=λz=>leaf (.inl z);have xp:¬ x-1<1:=λz=>leaf (.inr (.inl z));have rp:¬ r=0:=λz=>leaf (.inr (.inr z));refine Res.tr (ah toR (ifN (orF (by walk_at "x") (orF (by walk_at "x") (by walk_at "x"))))) ?_
  have ih:=ih (by omega)
  obtain⟨d,rfl⟩:∃d',d=d'+1:=⟨d-1,by omega⟩
  by_cases h3:r<3
  .obtain⟨s,o3,k3,w3,n3,e3,P3⟩:=ih o1 (N+1) p (x-1) P1 (by omega) hp
   refine Res.tr (ah toR (jx (ifr (by walk_at "x") (by walk_at "x")))) ?_
   exact⟨.many s,o3,[],by rw[sd,pn,show x-1-(pn s:Int)=x-((1+pn s:Nat):Int) by omega];rfl,k3,by rw[wt];exact w3,by rw[Nd];exact n3,P3.up (by omega)⟩
  .refine Res.tr (ah toR (ifN (by walk_at "x"))) ?_
   by_cases h5:r<5
   .obtain⟨hi,o2,e2,b1,P2⟩:=dw (m:=5) P1 (by omega) (by decide) (by decide)
    obtain⟨lo,o3,e3,c1,P3⟩:=dw (m:=(hi:Int)+1) P2 (by omega) (by omega) (by omega)
    obtain⟨m,hm,m1,mw⟩:∃m:Nat,a9y [.int 1,bj hi] [o3,.lst [.int (x-1)]]=.ok (bj m) [o3,.lst [.int (x-1)]]/\1<=m/\m<=4/\hi<=m:=by
     refine⟨(if (hi:Int) > 1 then (hi:Int) else 1).toNat,?_,?_⟩
     .show R.ok (D.int (if (hi:Int) > 1 then (hi:Int) else 1)) _=_
      rw[show bj (if (hi:Int) > 1 then (hi:Int) else 1).toNat=D.int (if (hi:Int) > 1 then (hi:Int) else 1) from ah D.int (by split<;>omega)]
     .split<;>omega
    obtain⟨s,o4,k4,w4,n4,e4,P4⟩:=ih o3 (N+1+1+1) (p / m) (x-1) P3 (by omega) (bH (Nat.div_le_self _ _) hp)
    have dv:a74 (bj p) (bj m) [o3,.lst [.int (x-1)]]=.ok (bj (p / m)) [o3,.lst [.int (x-1)]]:=(div_ii ⟨by omega,by omega⟩).trans (by rw[<-Int.natCast_ediv])
    refine Res.tr (ah toR (jx (ar (ifT (by walk_at "x")) (ar (jr (by walk_at "x")) (ar (jr (kj (au rfl) (mz rfl aqr) (drz e3))) (fu (aoo (cns ckk (cns (aoo (cns (au rfl) (cns (au rfl) (cns (mz rfl subn) (cns (jq (au rfl) (kj ckk (au rfl) hm) dv) (cns (au rfl) nlo))))) (b0k e4)) (cns (au rfl) (cns (au rfl) nlo)))) b0j))))))) ?_
    refine⟨.tim s lo hi,o4,[],by rw[sd,pn,show x-1-(pn s:Int)=x-((1+pn s:Nat):Int) by omega];rfl,⟨by omega,by omega,k4⟩,?_,by rw[Nd];exact n4,P4.up (by omega)⟩
    rw[wt];exact bH (Nat.mul_le_mul mw.2 w4) (Nat.mul_div_le p m)
   .refine Res.tr (ah toR (ifN (by walk_at "x"))) ?_
    obtain⟨q,o2,e2,q1,P2⟩:=dw (m:=8) P1 (by omega) (by decide) (by decide)
    obtain⟨k,k1,k6,hk⟩:=ix8 q (by omega) [o2,.lst [.int (x-1)],.lst []]
    have nl:MI.wu [] [o1,.lst [.int (x-1)]]=.ok (.ref 2) [o1,.lst [.int (x-1)],.lst []]:=ai (dh (by simp))
    refine Res.tr (ah toR (jr (aoo nlo nl))) ?_;have t8:MI.jl [.int 1,.int 2,.int 2,.int 3,.int 3,.int 4,.int 5,.int 6] [o1,.lst [.int (x-1)],.lst []]=.ok (.tup [.int 1,.int 2,.int 2,.int 3,.int 3,.int 4,.int 5,.int 6]) [o1,.lst [.int (x-1)],.lst []]:=by unfold MI.jl;rw[ai (dh (by simp))]
    have it:sRg a0l (aa (s2 gIx (sA MI.jl (aa (sI 1) (aa (sI 2) (aa (sI 2) (aa (sI 3) (aa (sI 3) (aa (sI 4) (aa (sI 5) (aa (sI 6) aq))))))))) (sA (j8 false 2 SRC.aj) (aa (sV 0) (aa (sI 8) aq)))) aq) [some (.ref 0),some (.str (S tg)),some (bj (d+1+1)),some (bj p),some (.ref 1),some (bj r),none,none,some (.ref 2),none,none] [o1,.lst [.int (x-1)],.lst []]=.ok ⟨(List.range k).map bj,λ_=>True⟩ [o2,.lst [.int (x-1)],.lst []]:=by
     unfold sRg;rw[arg1 (jq (aoo (cns ckk (cns ckk (cns ckk (cns ckk (cns ckk (cns ckk (cns ckk (cns ckk nlo)))))))) t8) (kj (au rfl) ckk (drz e2)) hk),bc];exact aac _ (dh (by omega))
    refine Res.tr (ah toR (a79 it)) ?_;obtain⟨τ',h',e3,ss,o3,t9,t10,rfl,rfl,P3,ks,ws,ns,sl,s1⟩:=a1a (g:=kN 9) (b:=ue SRC.aj lu (cu n) (b8 5)) bj
     (λpre τ h=>∃(ss:List Sh) (o':O) (t9 t10:Option D),τ=[some (.ref 0),some (.str (S tg)),some (bj (d+1+1)),some (bj (p-wts ss)),some (.ref 1),some (bj r),none,none,some (.ref 2),t9,t10]/\h=[o',.lst [.int (x-1-pns ss)],.lst (ss.map sd)]/\Src o' (N+2+pre.length*bnd (d+1))/\(∀s∈ss,a2c tg (d+1) s)/\wts ss<=p/\Nds ss/\ss.length<=pre.length/\(1<=pre.length->1<=ss.length))
     (List.range k) [some (.ref 0),some (.str (S tg)),some (bj (d+1+1)),some (bj p),some (.ref 1),some (bj r),none,none,some (.ref 2),none,none] [o2,.lst [.int (x-1)],.lst []] (by
      rintro pre i post τ h al ⟨ss,o',t9,t10,rfl,rfl,P',ks,ws,ns,sl,s1⟩
      have hl:pre.length<k:=by
       have:=ah List.length al
       simp at this;omega
      have kb:(pre.length+1)*bnd (d+1)<=6*bnd (d+1):=bZ _ (by omega)
      rw[dI]at kb;refine⟨_,_,rfl,?_⟩;show ∃τ2 h2,ue SRC.aj lu (cu n) (b8 5) [some (.ref 0),some (.str (S tg)),some (bj (d+1+1)),some (bj (p-wts ss)),some (.ref 1),some (bj r),none,none,some (.ref 2),some (bj i),t10] [o',.lst [.int (x-1-pns ss)],.lst (ss.map sd)]=.nx τ2 h2/\_;unfold ue
      by_cases room:0<x-1-(pns ss:Int)
      .obtain⟨s,o5,k5,w5,n5,e5,P5⟩:=ih o' _ (p-wts ss) (x-1-pns ss) P' (by omega) (by omega)
       have c1:=a4c (d+1) 5 (by omega) s k5
       have sb:MI.a4e (bj (p-wts ss)) (bj (wt s)) [o5,.lst [.int (x-1-pns ss-pn s)],.lst (ss.map sd)]=.ok (bj (p-wts (ss++[s]))) [o5,.lst [.int (x-1-pns ss-pn s)],.lst (ss.map sd)]:=by
        rw[vo,a90,show((p-wts ss:Nat):Int)-(wt s:Nat)=((p-(wts ss+wt s):Nat):Int) by omega]
       refine⟨_,_,ar (ifT (by walk_at "x")) (ar (jr (by walk_at "x")) (ar (wj (abv rfl (m9 (au rfl) (c1 _)) sb)) (a6n (au rfl) rfl (cns (au rfl) nlo) (adn (i:=2) rfl (aaf (by simp;omega)))))),ss++[s],o5,some (bj i),some (sd s),rfl,?_,?_,?_,?_,?_,?_,?_⟩
       .rw[cC,aid];show[o5,O.lst [.int (x-1-pns ss-pn s)],.lst (ss.map sd++[sd s])]=_;rw[show x-1-(pns ss:Int)-(pn s:Int)=x-1-((pns ss+pn s:Nat):Int) by omega]
        rfl
       .rw[a9,ay,dI,<-gv];exact P5
       .intro u hu
        rcases bG.mp hu with hu|hu
        .exact ks u hu
        .rw[aI.mp hu];exact k5
       .rw[a90];omega
       .exact aie ns n5
       .rw[a9,a9,ay,ay];omega
       .intro _;rw[a9,ay];omega
      .refine⟨_,_,ifF (by walk_at "x"),ss,o',some (bj i),t10,rfl,rfl,P'.up ?_,ks,ws,ns,?_,?_⟩
       .rw[a9,ay,dI];omega
       .rw[a9];omega
       .intro _
        by_cases z:1<=pre.length
        .exact s1 z
        .exfalso
         have:ss.length=0:=by omega
         rw[ei.mp this,pns]at room;omega) ⟨[],o2,none,none,by rw[wts];rfl,by rw[pns];simp,by simpa using P2,by simp,by rw[wts];omega,by rw[Nds];trivial,by simp,by simp⟩
    rw[bL]at P3 sl s1;have kb:k*bnd (d+1)<=6*bnd (d+1):=bZ _ k6;refine Res.tr (ah (λz=>toR (MI.thn z _)) e3) ?_;rw[a1e];have tp:uc [.ref 2] [o3,.lst [.int (x-1-pns ss)],.lst (ss.map sd)]=.ok (.tup (ss.map sd)) [o3,.lst [.int (x-1-pns ss)],.lst (ss.map sd)]:=abw rfl;have xe:x-1-(pns ss:Int)=x-((1+pns ss:Nat):Int):=by omega
    by_cases h7:r<7
    .have g1:a74 (bj r) (.int 7) [o3,.lst [.int (x-1-pns ss)],.lst (ss.map sd)]=.ok (bj 0) [o3,.lst [.int (x-1-pns ss)],.lst (ss.map sd)]:=(div_ii ⟨by decide,by decide⟩).trans (by rw[show(r:Int) / 7=((0:Nat):Int) by omega])
     refine Res.tr (ah toR (fu (kj (jq (kj ckk ckk yt) (mz rfl g1) (aae (j:=0) rfl)) (m9 (au rfl) tp) yt))) ?_;exact⟨.row ss,o3,[.lst (ss.map sd)],by rw[sd,a0f,pn,xe];rfl,⟨by omega,ks⟩,by rw[wt];exact ws,by rw[Nd];exact ns,P3.up (by omega)⟩
    .have g1:a74 (bj r) (.int 7) [o3,.lst [.int (x-1-pns ss)],.lst (ss.map sd)]=.ok (bj 1) [o3,.lst [.int (x-1-pns ss)],.lst (ss.map sd)]:=(div_ii ⟨by decide,by decide⟩).trans (by rw[show(r:Int) / 7=((1:Nat):Int) by omega])
     refine Res.tr (ah toR (fu (kj (jq (kj ckk ckk yt) (mz rfl g1) (aae (j:=1) rfl)) (m9 (au rfl) tp) yt))) ?_;exact⟨.eit ss,o3,[.lst (ss.map sd)],by rw[sd,a0f,pn,xe];rfl,⟨s1 (by omega),by omega,ks⟩,by rw[wt];exact ws,by rw[Nd];exact ns,P3.up (by omega)⟩
theorem a91{tg:List Nat}(t1:1<=tg.length)(t6:tg.length<=6)(nd:tg.Nodup):∀(d n:Nat),d<=4->d<=n->Drawn tg (n+1) (d+1)
 |0,n,_,_=>a7y t1 t6 nd (by omega) λz=>absurd z (by omega)
 |d+1,0,_,h=>absurd h (by omega)
 |d+1,n+1,h,h'=>a7y t1 t6 nd h λ_=>a91 t1 t6 nd d n (by omega) (by omega)
theorem ae1{α β:Type}{fi:SI}{t:D->Option Sd}{fe:SE}{ix:List Nat}{τ:Sd}{o0 o:O}{hs:Hd}(xs:List α)(g:α->D)(k:β->D)(Q:α->β->Prop){N B M:Nat}(P:Src o N)(hM:N+xs.length*B<=M)(z:xs.length<=1000000)(ch:∀u∈hs,wg 0 u)
  (e:fi τ (o0::hs)=.ok ⟨xs.map g,λ_=>True⟩ (o::hs)) (st:∀x∈xs,∀o N,Src o N->N+B<=M->∃y o',a2n t fe (frs' ix τ) (g x) (o::hs)=.ok (k y) (o'::hs)/\MI.clo 0 (k y)/\Q x y/\Src o' (N+B)) :
  ∃ys o',sZ (qi fi t fe ix) τ (o0::hs)=.ok (.rol (ys.map k)) (o'::hs)/\All2 Q xs ys/\Src o' (N+xs.length*B)/\clos 0 (ys.map k):=by
 have mp:=adf (f:=a2n t fe (frs' ix τ)) g (λpre zs h=>∃(ys:List β) (o':O),zs=ys.map k/\h=o'::hs/\Src o' (N+pre.length*B)/\All2 Q pre ys/\clos 0 (ys.map k)) xs [] [] (o::hs) ?_ ⟨[],o,rfl,rfl,by simpa using P,.nil,bx⟩
 .obtain⟨zs,h',mp,ys,o',zq,rfl,P',q,cl⟩:=mp;simp only[bR]at zq P' q;subst zq;refine⟨ys,o',EVT.arj ?_ rfl cl (λu hu=>?_),q,P',cl⟩
  .unfold qi;rw[e,bc];dsimp only;rw[ai (dh (by rw[aE];exact z)),mp]
   rfl
  .rcases aV.mp hu with rfl|hu
   .exact P'.clo
   .exact ch u hu
 .rintro pre x post zs h al ⟨ys,o',rfl,rfl,P',q,cl⟩
  have al:xs=pre++x::post:=al;have hl:pre.length+1<=xs.length:=by rw[al];simp
  have kb:(pre.length+1)*B<=xs.length*B:=bZ _ hl;rw[dI]at kb;obtain⟨y,o'',e',cy,qy,P''⟩:=st x (by rw[al];simp) o' _ P' (by omega)
  refine⟨k y,o''::hs,e',ys++[y],o'',by simp,rfl,?_,q.snoc qy,?_⟩
  .rw[a9,ay,dI];exact P''.up (by omega)
  .rw[cC];exact EVT.p6 cl (ak cy bx)
noncomputable def az:List Nat:=("abcdefghijklmnopqrstuvwxyz" : Str).cps.toList
theorem a4d:az.length=26:=by decide +kernel
theorem az7:az.Nodup:=by decide +kernel
theorem az8:("abcdefghijklmnopqrstuvwxyz" : Str)=S az:=by
 unfold az
 generalize ("abcdefghijklmnopqrstuvwxyz" : Str)=z
 obtain⟨cps⟩:=z;rfl
theorem aw6{c:Nat}(hc:c∈az)(h:Hd):∃j,j<26/\az[j]? = some c/\ad4 (.str (S az)) [.str (S [c])] h=.ok (bj j) h:=by
 obtain⟨i,e1,e2,_⟩:=acr (T:=S az) (c:=c) (by rw[zb];exact hc)
 rw[zb]at e2;have hi:=(ae.mp e2).1;rw[a4d]at hi;refine⟨i,hi,e2,?_⟩;show(if c∈(S az).cps.toList then MI.R.ok (D.int (ab7 (S az) c)) h else .no)=_
 rw[ai (by rw[zb];exact hc),e1]
abbrev nmD(x:List Nat):D:=.str (S x)
theorem a4v(l:List (List Nat)):clos 0 (l.map nmD):=gf λ_ _=>cj _
theorem anu{x:List Nat}{l:List (List Nat)}{h:Hd}{i:Nat}(e:h[i]? = some (.lst (l.map nmD))):gIn false (nmD x) (.ref i) h=.ok (.bl (decide (x∈l))) h:=by
 have go:∀l:List (List Nat),inD (nmD x) (l.map nmD)=decide (x∈l):=λl=>by
  induction l with
  |nil=>simp[inD]
  |cons y l ih =>
   show(eqF (nmD y) (nmD x) || inD (nmD x) (l.map nmD))=_
   rw[ih];show((S y == S x) || decide (x∈l))=_
   rw[aqf]
   by_cases q:y=x
   .subst q;simp
   .simp[q,dW q]
 have fl:(l.map nmD).all zr=true:=by
  rw[aO]
  intro y hy
  obtain⟨z,_,rfl⟩:=bF.mp hy;rfl
 unfold gIn;dsimp only;have sq:ww (.ref i) h=some (l.map nmD):=by unfold ww;simp only[e]
 simp only[sq];rw[ai ⟨rfl,fl⟩,aL (by decide),go]
theorem aqt{l:List (List Nat)}{h:Hd}{i:Nat}(e:h[i]? = some (.lst (l.map nmD))):a8o true (.ref i) (.rol []) h=.ok (.bl (!l.isEmpty)) h:=by
 have a:zu (.ref i) h=some (l.map nmD):=by unfold zu;simp only[e]
 unfold a8o;rw[a];show(if (l.map nmD).all (pur 59)=true/\([]:List D).all (pur 59)=true then R.ok (D.bl (if true=true then !aa0 (l.map nmD) [] else aa0 (l.map nmD) [])) h else .no)=_
 rw[ai ⟨by rw[aO];intro x hx;obtain⟨y,_,rfl⟩:=bF.mp hx;rfl,rfl⟩]
 cases l<;>rfl
theorem aqu{xs:List D}{h:Hd}{i:Nat}{d:D}(e:h[i]? = some (.lst xs))(hx:xs[xs.length-1]? = some d):gIx (.ref i) (.int (-1)) h=.ok d h:=by
 have lt:xs.length-1<xs.length:=(ae.mp hx).1;have n:ixN xs.length (-1)=some (xs.length-1):=by
  unfold ixN;rw[aL (by omega),ai (by omega)]
  congr 1
  omega
 have sq:ww (.ref i) h=some xs:=by unfold ww;simp only[e]
 unfold gIx;simp only[sq,atI,n,Option.bind_some,hx]
theorem aca{α:Type}[DecidableEq α]:∀{l m:List α},l.Nodup->(∀x∈l,x∈m)->l.length<=m.length
 |[],_,_,_=>bE _
 |a::l,m,nd,s=>by
  have ha:=s a aX;have:=aca (l:=l) (m:=m.erase a) (cP.mp nd).2 λx hx=>(List.mem_erase_of_ne (λe:x=a=>(cP.mp nd).1 (e ▸ hx))).mpr (s x (aP _ hx));rw[List.length_erase_of_mem ha]at this;have:0<m.length:=List.length_pos_of_mem ha;rw[aM];omega
structure Nm (x:List Nat):Prop where
 lo:1<=x.length
 hi:x.length<=8
 az:∀c∈x,c∈az
noncomputable def nx(x:List Nat)(a f j:Nat):List Nat:=x.set a (az[(f+j)%26]?.getD 0)
theorem aif(k:Nat):az[k%26]? = some (az[k%26]?.getD 0):=by
 rw[a6 (by rw[a4d];omega)]
 rfl
theorem anv{x:List Nat}{a f i j:Nat}(ha:a<x.length)(hi:i<26)(hj:j<26)(e:nx x a f i=nx x a f j):i=j:=by
 have h:=ah (λl:List Nat=>l[a]?) e;simp only[nx,cA ha,Option.some.injEq]at h;have h1:=aif (f+i);have h2:=aif (f+j);rw[h,<-h2]at h1;have:=(List.getElem?_inj (by rw[a4d];omega) az7).mp h1
 omega
theorem aw7{x:List Nat}{a f j:Nat}(n:Nm x):Nm (nx x a f j):=by
 refine⟨by unfold nx;rw[cY];exact n.lo,by unfold nx;rw[cY];exact n.hi,λc hc=>?_⟩
 rcases List.mem_or_eq_of_mem_set hc with h|rfl
 .exact n.az c h
 .exact bq (aif (f+j))
theorem anw{x:List Nat}{a f j:Nat}(ha:a<x.length)(c:Nat):(nx x a f j).take a++[c]++(nx x a f j).drop (a+1)=x.set a c:=by
 unfold nx;rw[List.take_set_of_le (a8 _),List.drop_set_of_lt (by omega),List.set_eq_take_append_cons_drop,ai ha]
 simp
def iw:SF:=jw (xj SRC.aj) 8
theorem aqv{ns:List (List Nat)}(hn:ns.length<=6)(ok:∀x∈ns,Nm x){o:O}{N:Nat}(P:Src o N)(hN:N<=900000000):∃x o',Dr2 iw 2 [] o (.lst (ns.map nmD)) (nmD x) o' (.lst (ns.map nmD))/\Nm x/\x∉ns/\Src o' (N+11):=by
 obtain⟨r0,o1,e1,r0b,P1⟩:=dw (m:=8) P (by omega) (by decide) (by decide)
 have lett:∀r:Nat,r<26->∀hh:Hd,∃c,c∈az/\gIx (.str (S az)) (bj r) hh=.ok (.str (S [c])) hh:=λr hr hh=>by
  have hl:r<az.length:=by rw[a4d];exact hr
  exact⟨az[r],bo hl,aj1 (dh (by rw[a4d];omega)) (a6 hl)⟩
 obtain⟨ys,o2,e2,q,P2,_⟩:=ae1 (fi:=sRg a0l (aa (s2 gw (sI 1) (sA (j8 false 2 SRC.aj) (aa (sV 0) (aa (sI 8) aq)))) aq)) (t:=MI.t1) (fe:=yz SRC.aj) (ix:=[0,2]) (τ:=[some (.ref 0),some (.ref 1),some (.str (S az)),none,none,none,none,none]) (o0:=o) (hs:=[.lst (ns.map nmD)]) (List.range (1+r0)) bj (λc:Nat=>nmD [c]) (λ_ c=>c∈az) (B:=1) (M:=900000100) P1 (by rw[bL];omega) (by rw[bL];omega) (EVT.vz (a4v ns)) (by
   have a1:aa (s2 gw (sI 1) (sA (j8 false 2 SRC.aj) (aa (sV 0) (aa (sI 8) aq)))) aq [some (.ref 0),some (.ref 1),some (.str (S az)),none,none,none,none,none] [o,.lst (ns.map nmD)]=.ok [bj (1+r0)] [o1,.lst (ns.map nmD)]:=arg1 (jq ckk (kj (au rfl) ckk (drz e1)) (aat (a:=1)));unfold sRg;rw[a1,bc];exact aac _ (dh (by omega))) (λi _ u M Pu hM=>by
   obtain⟨r,u',e,rb,Pu'⟩:=dw (m:=26) Pu (by omega) (by decide) (by decide)
   obtain⟨c,hc,gx⟩:=lett r (by omega) [u',.lst (ns.map nmD)]
   refine⟨c,u',?_,cj _,hc,Pu'⟩;rw[yo];exact jq (au rfl) (kj (au rfl) ckk (drz e)) gx)
 have ql:=q.len;rw[bL]at ql P2;have jn:abh (.str (S [])) [.rol (ys.map λc:Nat=>nmD [c])] [o2,.lst (ns.map nmD)]=.ok (nmD ys) [o2,.lst (ns.map nmD)]:=by
  have j:=K76.anq (ls:=ys.map λc=>[c]) (h:=[o2,.lst (ns.map nmD)]) (by rw[ENG.a4b];omega)
  rw[cK,ENG.a4b]at j;exact j
 have Y:Nm ys:=⟨by omega,by omega,λc hc=>by obtain⟨_,_,h⟩:=q.rt c hc;exact h⟩
 obtain⟨x0,o3,X,P3,e3⟩:∃x0 o3,Nm x0/\Src o3 (N+10)/\∀g:SS,gj (sIf (zj (sT (s2 (a8o true) (sV 1) (sZ (sA MI.wu aq)))) (sT (s2 hEq (sA (j8 false 2 SRC.aj) (aa (sV 0) (aa (sI 2) aq))) (sI 0)))) (jm 3 (s2 gIx (sV 1) (s1 agh (sI 1)))) sNx) g [some (.ref 0),some (.ref 1),some (.str (S az)),some (nmD ys),none,none,none,none] [o2,.lst (ns.map nmD)]=g [some (.ref 0),some (.ref 1),some (.str (S az)),some (nmD x0),none,none,none,none] [o3,.lst (ns.map nmD)]:=by
  have z0:sZ (sA MI.wu aq) [some (.ref 0),some (.ref 1),some (.str (S az)),some (nmD ys),none,none,none,none] [o2,.lst (ns.map nmD)]=.ok (.rol []) [o2,.lst (ns.map nmD)]:=zds nlo rfl bx (aib P2.clo (a4v ns)) (by simp)
  have c1:sT (s2 (a8o true) (sV 1) (sZ (sA MI.wu aq))) [some (.ref 0),some (.ref 1),some (.str (S az)),some (nmD ys),none,none,none,none] [o2,.lst (ns.map nmD)]=.ok (!ns.isEmpty) [o2,.lst (ns.map nmD)]:=t2s (au rfl) z0 (aqt rfl)
  by_cases em:ns.isEmpty=true
  .rw[em]at c1;exact⟨ys,o2,Y,P2.up (by omega),λg=>ifN (a5j c1)⟩
  .have em:ns.isEmpty=false:=by simpa using em
   rw[em]at c1;obtain⟨b,o3,e,_,P3⟩:=dw (m:=2) P2 (by omega) (by decide) (by decide)
   have d1:sA (j8 false 2 SRC.aj) (aa (sV 0) (aa (sI 2) aq)) [some (.ref 0),some (.ref 1),some (.str (S az)),some (nmD ys),none,none,none,none] [o2,.lst (ns.map nmD)]=.ok (bj b) [o3,.lst (ns.map nmD)]:=kj (au rfl) ckk (drz e)
   by_cases b0:b=0
   .have nl:ns.length-1<ns.length:=by
     have:0<ns.length:=by cases ns with|nil=>simp at em|cons=>simp
     omega
    have gl:gIx (.ref 1) (.int (-1)) [o3,.lst (ns.map nmD)]=.ok (nmD ns[ns.length-1]) [o3,.lst (ns.map nmD)]:=aqu (xs:=ns.map nmD) rfl (by rw[aE,bV,a6 nl];rfl)
    refine⟨ns[ns.length-1],o3,ok _ (bo nl),P3.up (by omega),λg=>wj (ar (ifT (h1:=[o3,.lst (ns.map nmD)]) (a4f c1 (t2s d1 ckk (vm (by omega))))) (aqh (jq (au rfl) (aar ckk (a2y _)) gl)))⟩
   .exact⟨ys,o3,Y,P3.up (by omega),λg=>ifN (h1:=[o3,.lst (ns.map nmD)]) (a4f c1 (t2s d1 ckk (ux (by omega))))⟩
 obtain⟨a,o4,e4,ab,P4⟩:=dw (m:=(x0.length:Int)) P3 (by omega) (by have:=X.lo;omega) (by have:=X.hi;omega)
 have ha:a<x0.length:=by omega
 obtain⟨f,hf,fa,fx⟩:=aw6 (X.az _ (bo ha)) [o4,.lst (ns.map nmD)];have start:nx x0 a f 0=x0:=by
  unfold nx;have:az[(f+0)%26]? = some x0[a]:=by rw[Nat.add_zero,Nat.mod_eq_of_lt hf];exact fa
  rw[this];exact List.set_getElem_self ha
 have X8:=X.hi
 rcases auw (c:=qw SRC.aj) (f:=za SRC.aj)
  (λm τ h=>∃(j:Nat) (t7:Option D),τ=[some (.ref 0),some (.ref 1),some (.str (S az)),some (nmD (nx x0 a f j)),some (bj a),some (bj f),some (bj j),t7]/\h=[o4,.lst (ns.map nmD)]/\m=26-j/\j<=6/\∀i<j,nx x0 a f i∈ns)
  (λτ h=>∃(j:Nat) (t7:Option D),τ=[some (.ref 0),some (.ref 1),some (.str (S az)),some (nmD (nx x0 a f j)),some (bj a),some (bj f),some (bj j),t7]/\h=[o4,.lst (ns.map nmD)]/\nx x0 a f j∉ns) (λ_ _=>False)
  (by
   rintro m τ h ⟨j,t7,rfl,rfl,rfl,j6,all⟩
   have c:qw SRC.aj [some (.ref 0),some (.ref 1),some (.str (S az)),some (nmD (nx x0 a f j)),some (bj a),some (bj f),some (bj j),t7] [o4,.lst (ns.map nmD)]=.ok (decide (nx x0 a f j∈ns)) [o4,.lst (ns.map nmD)]:=t2s (au rfl) (au rfl) (anu rfl)
   by_cases q:nx x0 a f j∈ns
   .right
    rw[aw q]at c;refine⟨_,c,.inl ?_⟩;have few:j+1<=6:=by
     have:=aca (l:=(List.range (j+1)).map (nx x0 a f)) (m:=ns) (by
      rw[fq,fH];refine fI ?_ (List.nodup_range (n:=j+1))
      intro u v hu hv ne e
      exact ne (anv ha (by have:=c6.mp hu;omega) (by have:=c6.mp hv;omega) e)) (λy hy=>by
      obtain⟨i,hi,rfl⟩:=bF.mp hy;have:=c6.mp hi
      by_cases z:i=j
      .subst z;exact q
      .exact all i (by omega))
     rw[aE,bL]at this;omega
    have l1:(nx x0 a f j).length=x0.length:=by unfold nx;rw[cY]
    have md:a3n (bj (f+(j+1))) (.int 26) [o4,.lst (ns.map nmD)]=.ok (bj ((f+(j+1))%26)) [o4,.lst (ns.map nmD)]:=(a5e (by decide)).trans (by show R.ok (D.int (((f+(j+1):Nat):Int)%((26:Nat):Int))) _=_;rw[<-Int.natCast_emod])
    have gx:gIx (.str (S az)) (bj ((f+(j+1))%26)) [o4,.lst (ns.map nmD)]=.ok (.str (S [az[(f+(j+1))%26]?.getD 0])) [o4,.lst (ns.map nmD)]:=aj1 (dh (by rw[a4d];omega)) (aif _)
    have cut:s2 gw (s2 gw (a2g (sV 3) oN (oS (sV 4))) (sV 7)) (a2g (sV 3) (oS (s2 gw (sV 4) (sI 1))) oN) [some (.ref 0),some (.ref 1),some (.str (S az)),some (nmD (nx x0 a f j)),some (bj a),some (bj f),some (bj (j+1)),some (.str (S [az[(f+(j+1))%26]?.getD 0]))] [o4,.lst (ns.map nmD)]=.ok (nmD (nx x0 a f (j+1))) [o4,.lst (ns.map nmD)]:=by
     refine ar (jq (jq (a5r (au rfl) onn (a5f (au rfl)) (avb a (dh (by omega)))) (au rfl) (a8p (dh (by simp only[aR,ay];omega)))) (a5r (au rfl) (a5f (mz rfl (aat (b:=1)))) onn (adl (a+1) (dh (by omega)))) (a8p (dh (by simp only[a9,aR,aY,ay];omega)))) ?_
     rw[anw ha];rfl
    refine⟨_,_,26-(j+1),ar (wj (abv rfl ckk rfl)) (ar (jr (jq (au rfl) (jq (jq (au rfl) (au rfl) (aat (b:=j+1))) ckk md) gx)) (aqh cut)),by omega,j+1,_,rfl,rfl,rfl,few,λi hi=>?_⟩
    by_cases z:i=j
    .subst z;exact q
    .exact all i (by omega)
   .left
    rw[av q]at c;exact⟨_,c,j,t7,rfl,rfl,q⟩)
  26 100000 [some (.ref 0),some (.ref 1),some (.str (S az)),some (nmD (nx x0 a f 0)),some (bj a),some (bj f),some (bj 0),none] [o4,.lst (ns.map nmD)] (by omega) ⟨0,none,rfl,rfl,rfl,by omega,λi hi=>absurd hi (by omega)⟩ with⟨τ',h',ew,j,t7,rfl,rfl,nin⟩|⟨_,_,_,z⟩
 .refine⟨nx x0 a f j,o4,Dr2.of rfl (by simp) P.clo (a4v ns) ?_ (b0i (h:=[]) (cj _) P4.clo (a4v ns)) (cj _) P4.clo (a4v ns),aw7 X,nin,P4⟩
  unfold iw;rw[dm];show toR (xj SRC.aj [some (.ref 0),some (.ref 1),none,none,none,none,none,none] [o,.lst (ns.map nmD)])=_;unfold xj;rw[az8];refine etr (jr ckk) ?_;refine ets (K76.axe (z:=S []) ckk (arg1 e2) jn) ?_;refine etr (e3 _) ?_;refine ets (kj (au rfl) (m9 (au rfl) (a78 (dh (by omega)))) (drz e4)) ?_
  refine ets (K76.axe (au rfl) (arg1 (jq (au rfl) (au rfl) (aj1 (dh (by omega)) (a6 ha)))) fx) ?_
  refine etr (jr ckk) ?_;rw[start]at ew;refine etr (wj ew) ?_;exact ah toR (fu (au rfl))
 .exact z.elim
abbrev Rule:=List Nat×Sh
abbrev rlD(r:Rule):D:=.tup [nmD r.1,sd r.2]
abbrev bkD(tg:List Nat)(rs:List Rule):D:=.tup [.str (S tg),.tup (rs.map rlD)]
theorem aw8(r:Rule):MI.clo 0 (rlD r):=gh (ak (cj _) (ak (a2d _) bx))
theorem aig(tg:List Nat)(rs:List Rule):MI.clo 0 (bkD tg rs):=gh (ak (cj _) (ak (gh (gf λr _=>aw8 r)) bx))
noncomputable def rw8(rs:List Rule):Nat:=wts (rs.map Prod.snd)
structure Bk (tg:List Nat) (p:Nat) (rs:List Rule):Prop where
 few:rs.length<=6
 nm:∀r∈rs,Nm r.1
 sh:∀r∈rs,a2c tg 5 r.2
 nd:∀r∈rs,Nd r.2
 un:(rs.map Prod.fst).Nodup
 wt:rw8 rs<=p
theorem b2q(r:Nat)(h:r<8)(h':Hd):∃m:Nat,m<=6/\gIx (.tup [.int 0,.int 1,.int 1,.int 2,.int 2,.int 3,.int 4,.int 6]) (bj r) h'=.ok (bj m) h':=by
 rcases r with _|_|_|_|_|_|_|_|r
 .exact⟨0,by decide,rfl⟩
 .exact⟨1,by decide,rfl⟩
 .exact⟨1,by decide,rfl⟩
 .exact⟨2,by decide,rfl⟩
 .exact⟨2,by decide,rfl⟩
 .exact⟨3,by decide,rfl⟩
 .exact⟨4,by decide,rfl⟩
 .exact⟨6,by decide,rfl⟩
 .omega
theorem anx{tg:List Nat}{s:Sh}:∀{d e:Nat},d<=e->a2c tg d s->a2c tg e s
 |d,0,h,k=>by cases Nat.le_zero.mp h;exact k
 |d,e+1,h,k=>by
  by_cases q:d=e+1
  .subst q;exact k
  .exact aia (anx (d:=d) (e:=e) (by omega) k)
theorem b2r{u u' A B p q:O}{gs:Hd}:((u::A::B::(gs++[p])).set 0 u').set (gs.length+3) q=u'::A::B::(gs++[q]):=by simp
def jy:SF:=jw (a0q SRC.aj iw (cu 5) (b8 5)) 9
theorem aqw{tg:List Nat}(t1:1<=tg.length)(t6:tg.length<=6)(nd:tg.Nodup){p:Nat}(hp:p<=1000){o:O}{N:Nat}(P:Src o N)(hN:N<=100000000):∃rs o',Dr jy 3 [.str (S tg),bj p] o (bkD tg rs) o'/\Bk tg p rs/\Src o' (N+30000000):=by
 obtain⟨r,o1,e1,rb,P1⟩:=dw (m:=8) P (by omega) (by decide) (by decide)
 obtain⟨k,k6,hk⟩:=b2q r (by omega) [o1,.lst [],.lst []]
 have b5:bnd 5=3361400:=by decide
 obtain⟨τ',h',e2,rs,u,gs,t5,t6',t7,t8,rfl,rfl,P2,ln,nm,sh,nds,un,wt,cg⟩:=a1a (g:=kN 5) (b:=vh SRC.aj iw (cu 5) (b8 5)) bj
  (λpre τ h=>∃(rs:List Rule) (u:O) (gs:Hd) (t5 t6 t7 t8:Option D),τ=[some (.ref 0),some (.str (S tg)),some (bj (p-rw8 rs)),some (.ref 1),some (.ref 2),t5,t6,t7,t8]/\h=u::.lst ((rs.map Prod.fst).map nmD)::.lst (rs.map rlD)::gs/\Src u (N+1+pre.length*4000000)/\rs.length=pre.length/\(∀r∈rs,Nm r.1)/\(∀r∈rs,a2c tg 5 r.2)/\(∀r∈rs,Nd r.2)/\(rs.map Prod.fst).Nodup/\rw8 rs<=p/\∀v∈gs,wg 0 v)
  (List.range k) [some (.ref 0),some (.str (S tg)),some (bj p),some (.ref 1),some (.ref 2),none,none,none,none] [o1,.lst [],.lst []] (by
   rintro pre i post τ h al ⟨rs,u,gs,t5,t6',t7,t8,rfl,rfl,P2,ln,nm,sh,nds,un,wt,cg⟩
   have hl:pre.length<k:=by
    have:=ah List.length al
    simp at this;omega
   have kb:pre.length*4000000<=5*4000000:=bZ _ (by omega)
   obtain⟨d,u1,ed,db,P3⟩:=dw (m:=4) P2 (by omega) (by decide) (by decide)
   have bd:=ant (d:=d+2) (e:=5) (by omega)
   rw[b5]at bd;obtain⟨s,u2,ks,ws,ns,es,P4⟩:=a91 t1 t6 nd (d+1) 4 (by omega) (by omega) u1 _ (p-rw8 rs) 24 P3 (by rw[show d+1+1=d+2 from rfl];omega) (by omega)
   obtain⟨x,u3,ex,X,nin,P5⟩:=aqv (ns:=rs.map Prod.fst) (by rw[aE];omega) (λy hy=>by obtain⟨q,hq,rfl⟩:=bF.mp hy;exact nm q hq) P4 (by rw[show d+1+1=d+2 from rfl];omega)
   have ks5:a2c tg 5 s:=anx (by omega) ks
   have c1:=a4c (tg:=tg) 5 5 (by omega) s ks5
   have wa:rw8 (rs++[(x,s)])=rw8 rs+DRW.wt s:=by unfold rw8;rw[cC];exact a90 _ _
   let A:O:=.lst ((rs.map Prod.fst).map nmD)
   let B:O:=.lst (rs.map rlD)
   have nl:MI.wu [.int 24] (u1::A::B::gs)=.ok (.ref (gs.length+3)) (u1::A::B::(gs++[.lst [.int 24]])):=ai (dh (by simp))
   have ea:=es 0 (gs.length+3) (u1::A::B::(gs++[.lst [.int 24]])) (by omega) rfl (by simp)
   rw[b2r]at ea;have en:j8 false 2 iw [.ref 0,.ref 1] (u2::A::B::(gs++[.lst [.int (24-pn s)]]))=.ok (nmD x) (u3::A::B::(gs++[.lst [.int (24-pn s)]])):=ex 0 1 _ (by decide) rfl rfl
   have a2:gw (.int 2) (bj d) (u1::A::B::gs)=.ok (bj (d+1+1)) (u1::A::B::gs):=(aat (a:=2)).trans (by rw[show 2+d=d+1+1 by omega])
   have sb:MI.a4e (bj (p-rw8 rs)) (bj (DRW.wt s)) (u3::A::B::(gs++[.lst [.int (24-pn s)]]))=.ok (bj (p-rw8 (rs++[(x,s)]))) (u3::A::B::(gs++[.lst [.int (24-pn s)]])):=by
    rw[vo,wa,show((p-rw8 rs:Nat):Int)-(DRW.wt s:Nat)=((p-(rw8 rs+DRW.wt s):Nat):Int) by omega]
   refine⟨_,_,rfl,?_⟩;show ∃τ2 h2,vh SRC.aj iw (cu 5) (b8 5) [some (.ref 0),some (.str (S tg)),some (bj (p-rw8 rs)),some (.ref 1),some (.ref 2),some (bj i),t6',t7,t8] (u::A::B::gs)=.nx τ2 h2/\_;unfold vh;refine⟨_,_,ar (jr (jq ckk (kj (au rfl) ckk (drz ed)) a2)) (ar (jr (aoo (cns (au rfl) (cns (au rfl) (cns (au rfl) (cns (au rfl) (cns (aoo (arg1 ckk) nl) nlo))))) ea)) (ar (jr (kj (au rfl) (au rfl) en)) (ar (wj (abv rfl (m9 (au rfl) (c1 _)) sb)) (ar (wj (a6n (au rfl) rfl (arg1 (au rfl)) (adn (i:=1) rfl (aaf (by simp;omega))))) (a6n (au rfl) rfl (arg1 (kj (au rfl) (au rfl) yt)) (adn (i:=2) rfl (aaf (by simp;omega)))))))),rs++[(x,s)],u3,gs++[.lst [.int (24-pn s)]],some (bj i),some (bj (d+1+1)),some (sd s),some (nmD x),rfl,?_,?_,?_,?_,?_,?_,?_,?_,?_⟩
   .rw[cC,cC,cC];rfl
   .rw[a9,ay];exact P5.up (by rw[show d+1+1=d+2 from rfl];omega)
   .rw[a9,a9,ln];rfl
   .intro q hq
    rcases bG.mp hq with hq|hq
    .exact nm q hq
    .rw[aI.mp hq];exact X
   .intro q hq
    rcases bG.mp hq with hq|hq
    .exact sh q hq
    .rw[aI.mp hq];exact ks5
   .intro q hq
    rcases bG.mp hq with hq|hq
    .exact nds q hq
    .rw[aI.mp hq];exact ns
   .rw[cC,bC];refine⟨un,by simp,λy hy z hz e=>?_⟩
    rw[List.map_singleton,aI]at hz;subst hz e;exact nin hy
   .rw[wa];omega
   .intro v hv
    rcases bG.mp hv with hv|hv
    .exact cg v hv
    .rw[aI.mp hv];exact a8y _) ⟨[],o1,[],none,none,none,none,by rw[show rw8 []=0 by unfold rw8;rw[cN,wts]];rfl,rfl,by simpa using P1,rfl,by simp,by simp,by simp,by simp,by unfold rw8;rw[cN,wts];omega,by simp⟩
 rw[bL]at P2 ln;have kb:k*4000000<=6*4000000:=bZ _ k6;refine⟨rs,u,Dr.of rfl (λy hy=>by simp only[aV,c8,eF]at hy;rcases hy with rfl|rfl;exact cj _;exact bz _) P.clo (r:=.ok (bkD tg rs) (u::.lst ((rs.map Prod.fst).map nmD)::.lst (rs.map rlD)::gs)) ?_ (je (a7p (by omega) (aig tg rs)) (by simpa using wz (by omega) P2.clo)) (aig tg rs) P2.clo,⟨by omega,nm,sh,nds,un,wt⟩,P2.up (by omega)⟩
 unfold jy;rw[dm];show toR (a0q SRC.aj iw (cu 5) (b8 5) [some (.ref 0),some (.str (S tg)),some (bj p),none,none,none,none,none,none] [o])=_;unfold a0q;have n1:MI.wu [] [o]=.ok (.ref 1) [o,.lst []]:=ai (dh (by simp))
 have n2:MI.wu [] [o,.lst []]=.ok (.ref 2) [o,.lst [],.lst []]:=ai (dh (by simp))
 refine ets (aoo nlo n1) ?_;refine ets (aoo nlo n2) ?_;have t8:MI.jl [.int 0,.int 1,.int 1,.int 2,.int 2,.int 3,.int 4,.int 6] [o,.lst [],.lst []]=.ok (.tup [.int 0,.int 1,.int 1,.int 2,.int 2,.int 3,.int 4,.int 6]) [o,.lst [],.lst []]:=by unfold MI.jl;rw[ai (dh (by simp))]
 have it:sRg a0l (aa (s2 gIx (sA MI.jl (aa (sI 0) (aa (sI 1) (aa (sI 1) (aa (sI 2) (aa (sI 2) (aa (sI 3) (aa (sI 4) (aa (sI 6) aq))))))))) (sA (j8 false 2 SRC.aj) (aa (sV 0) (aa (sI 8) aq)))) aq) [some (.ref 0),some (.str (S tg)),some (bj p),some (.ref 1),some (.ref 2),none,none,none,none] [o,.lst [],.lst []]=.ok ⟨(List.range k).map bj,λ_=>True⟩ [o1,.lst [],.lst []]:=by
  unfold sRg;rw[arg1 (jq (aoo (cns ckk (cns ckk (cns ckk (cns ckk (cns ckk (cns ckk (cns ckk (cns ckk nlo)))))))) t8) (kj (au rfl) ckk (drz e1)) hk),bc];exact aac _ (dh (by omega))
 refine etr (a79 it) ?_;refine ar (ah (λz=>toR (MI.thn z _)) e2) ?_;rw[a1e];exact ah toR (fu (kj (au rfl) (m9 (au rfl) (abw (xs:=rs.map rlD) rfl)) yt))
theorem aih(x:Nat):∀l:List Nat,inD (bj x) (l.map bj)=decide (x∈l)
 |[]=>by simp[inD]
 |y::l=>by
  show(eqF (bj y) (bj x) || inD (bj x) (l.map bj))=_
  rw[aih x l];show(((y:Int) == (x:Int)) || decide (x∈l))=_
  by_cases h:y=x
  .subst h;simp
  .have:((y:Int) == (x:Int))=false:=bN.mpr (by omega)
   rw[this,fM];exact cF.mpr (by simp[dW h])
theorem alz(l:List Nat):(l.map bj).all zr=true:=by
 rw[aO]
 intro x hx
 obtain⟨y,_,rfl⟩:=bF.mp hx;rfl
theorem aw9(x:Nat)(l:List Nat)(h:Hd):gIn false (bj x) (lsD l) h=.ok (.bl (decide (x∈l))) h:=by
 show(if zr (bj x)=true/\(l.map bj).all zr=true then R.ok (D.bl (if false=true then !inD (bj x) (l.map bj) else inD (bj x) (l.map bj))) h else .no)=_
 rw[ai ⟨rfl,alz l⟩,aL (by decide),aih]
open Classical in
mutual
theorem aao{tg:List Nat}:∀{d:Nat} {s:Sh},a2c tg d s->pur (2*d) (sd s)=true
 |0,_,k=>k.elim
 |d+1,.one sg,_=>by rw[sd,show 2*(d+1)=2*d+1+1 by omega];rfl
 |d+1,.row ps,k=>by
  rw[sd,show 2*(d+1)=2*d+1+1 by omega]
  show((true && ((sds ps).all (pur (2*d)) && true))=true);rw[acb k.2];rfl
 |d+1,.eit ps,k=>by
  rw[sd,show 2*(d+1)=2*d+1+1 by omega]
  show((true && ((sds ps).all (pur (2*d)) && true))=true);rw[acb k.2.2];rfl
 |d+1,.many p,k=>by
  rw[sd,show 2*(d+1)=2*d+1+1 by omega]
  show((true && (pur (2*d+1) (sd p) && true))=true);rw[ad5 (by omega) (aao (d:=d) (s:=p) k)];rfl
 |d+1,.tim p lo hi,k=>by
  rw[sd,show 2*(d+1)=2*d+1+1 by omega]
  show((true && (pur (2*d+1) (sd p) && (pur (2*d+1) (bj lo) && (pur (2*d+1) (bj hi) && true))))=true);rw[ad5 (by omega) (aao (d:=d) (s:=p) k.2.2)];rfl
theorem acb{tg:List Nat}:∀{d:Nat} {ps:List Sh},(∀p∈ps,a2c tg d p)->(sds ps).all (pur (2*d))=true
 |_,[],_=>by rw[sds];rfl
 |d,p::ps,k=>by
  rw[sds,bD,aao (k p aX),acb λq hq=>k q (aP _ hq)];rfl
end
end DRW
namespace K16
open L2 MI AT HND EVX
open SHD
open K20 (a4a uy a2b isInt isStr Deep)
noncomputable def nP:Nat->D->Nat
 |0,_=>0
 |d+1,t=>1+((inT t).map (nP d)).sum
noncomputable def shB:Nat->D->Bool
 |0,_=>false
 |d+1,t=>jo t && (inT t).all (shB d)
theorem ae2:∀{d:Nat} {t:D},shB d t=true->nP d t≠0
 |0,t,h=>by cases h
 |d+1,t,_=>by rw[nP];omega
theorem anz{f:Nat->D->Nat}{N:D->Nat}{P:D->Bool}{m:Nat}(h:∀n x,f n x=if P x=true/\N x<=n then N x else 0)(hN:∀x,P x=true->N x≠0) :
  ∀(xs:List D) (c:Nat),c<=m->c≠0->pcl f m xs c=if xs.all P=true/\c+(xs.map N).sum<=m then c+(xs.map N).sum else 0
 |[],c,hc,_=>by rw[pcl,ai ⟨rfl,by simpa using hc⟩];simp
 |x::xs,c,hc,c0=>by
  have e1:((x::xs).all P=true/\c+(N x+(xs.map N).sum)<=m)↔((P x=true/\xs.all P=true)/\c+(N x+(xs.map N).sum)<=m):=by rw[bD,af]
  simp only[pcl,h,b6,dS]
  by_cases q:P x=true/\N x<=m-c
  .rw[ai q,aL (hN x q.1),anz h hN xs _ (by omega) (by omega)]
   by_cases r:xs.all P=true/\c+N x+(xs.map N).sum<=m
   .rw[ai r,ai (e1.mpr ⟨⟨q.1,r.1⟩,by have:=r.2;omega⟩)];omega
   .rw[aL r,aL];exact λz=>r ⟨(e1.mp z).1.2,by have:=z.2;omega⟩
  .rw[aL q,ai rfl,aL];exact λz=>q ⟨(e1.mp z).1.1,by have:=z.2;omega⟩
theorem awa:∀(d m:Nat) (t:D),pc d m t=if shB d t=true/\nP d t<=m then nP d t else 0
 |0,m,t=>by rw[pc,aL (by simp[shB])]
 |d+1,m,t=>by
  rw[pc,shB,nP]
  cases hf:jo t with
  |false=>rw[ai (.inr rfl),aL (by simp)]
  |true =>
   rw[bM]
   by_cases m0:m=0
   .rw[ai (.inl m0),aL (by omega)]
   .rw[aL (by simp[m0]),anz (awa d) (λx=>ae2) _ 1 (by omega) (by omega)]
theorem awb(t:D):aj2 t=(shB 5 t && decide (nP 5 t<=24)):=by
 unfold aj2;rw[awa]
 cases h:shB 5 t with
 |false=>rw[aL (by simp)];rfl
 |true =>
  have:=ae2 h
  by_cases l:nP 5 t<=24
  .rw[ai ⟨rfl,l⟩,aw l,bM,aw (by omega)]
  .rw[aL λz=>l z.2,av l];rfl
noncomputable def okP(tg:List Nat)(t:D):Bool:=match onS t with|some l=>a7x tg l|none=>true
noncomputable def ct(tg:List Nat):Nat->D->Nat
 |0,_=>0
 |d+1,t=>if (jo t && okP tg t)=true then (if 0∈(inT t).map (ct tg d) then 0 else 1+((inT t).map (ct tg d)).sum) else 0
noncomputable def skB(tg:List Nat):Nat->D->Bool
 |0,_=>false
 |d+1,t=>(jo t && okP tg t) && (inT t).all (skB tg d)
theorem aqx{tg:List Nat}:∀(d:Nat) (t:D),skB tg d t=(shB d t && (po d t).all (okP tg))
 |0,t=>rfl
 |d+1,t=>by
  rw[skB,shB,po,bD,List.all_flatten,dJ,cQ];simp only[af,aO,Function.comp,aqx d]
  constructor
  .rintro⟨⟨a,b⟩,c⟩;exact⟨⟨a,λx hx=>(c x hx).1⟩,b,λx hx=>(c x hx).2⟩
  .rintro⟨⟨a,c⟩,b,e⟩;exact⟨⟨a,b⟩,λx hx=>⟨c x hx,e x hx⟩⟩
theorem am0{tg:List Nat}:∀(d:Nat) (t:D),ct tg d t=if skB tg d t=true then nP d t else 0
 |0,t=>by rw[ct,skB,aL (by simp)]
 |d+1,t=>by
  rw[ct,skB,nP]
  cases hf:jo t && okP tg t with
  |false=>rw[aL (by simp),aL (by simp)]
  |true =>
   rw[ai rfl,bM]
   by_cases al:(inT t).all (skB tg d)=true
   .have e:(inT t).map (ct tg d)=(inT t).map (nP d):=List.map_congr_left λx hx=>by rw[am0 d x,ai (aO.mp al x hx)]
    rw[e,ai al,aL]
    intro z
    obtain⟨x,hx,q⟩:=bF.mp z;have k:=aO.mp al x hx;rw[aqx,af]at k;exact ae2 k.1 q
   .rw[aL al,ai];rw[aO]at al;obtain⟨x,q⟩:=Classical.not_forall.mp al;obtain⟨hx,q⟩:=Classical.not_imp.mp q;exact bF.mpr ⟨x,hx,by rw[am0 d x,aL q]⟩
theorem aii{tg:List Nat}:∀l:List D,(l.filterMap onS).all (a7x tg)=l.all (okP tg)
 |[]=>rfl
 |x::l=>by
  rw[bJ,bD];unfold okP
  cases onS x with
  |none=>exact(aii l).trans (bM _).symm
  |some y=>show(_ && _)=_;rw[aii l];rfl
theorem aij(tg:List Nat)(s:D):(aj2 s && ((po 5 s).filterMap onS).all (a7x tg))=decide (1<=ct tg 5 s/\ct tg 5 s<=24):=by
 rw[aii,awb,am0,aqx]
 cases h:shB 5 s with
 |false=>rw[dC,dC,aL (by simp),av (by omega)]
 |true =>
  have:=ae2 h
  cases (po 5 s).all (okP tg) with
  |false=>rw[cO,cO,aL (by simp),av (by omega)]
  |true=>rw[bM,cE,cE,ai rfl];exact cF.mpr (by omega)
theorem aik{tg:List Nat}{d:Nat}(ih:∀x,skB tg d x=true->∃s,x=sd s/\a2c tg d s):∀ps:List D,ps.all (skB tg d)=true->∃ss,ps=sds ss/\∀s∈ss,a2c tg d s
 |[],_=>⟨[],by rw[sds],by simp⟩
 |p::ps,h=>by
  rw[bD,af]at h;obtain⟨s,rfl,k⟩:=ih p h.1;obtain⟨ss,rfl,ks⟩:=aik ih ps h.2;exact⟨s::ss,by rw[sds],λq hq=>by rcases aV.mp hq with rfl|hq;exact k;exact ks q hq⟩
theorem acd:∀ss:List Sh,(sds ss).length=ss.length:=λss=>by rw[a0f,aE]
theorem awc{tg:List Nat}:∀(d:Nat) (t:D),skB tg d t=true->∃s,t=sd s/\a2c tg d s
 |0,t,h=>by cases h
 |d+1,t,h=>by
  rw[skB,af,af]at h;obtain⟨⟨hf,ho⟩,al⟩:=h;have ih:=awc (tg:=tg) d;unfold jo at hf
  split at hf
  .rename_i x y;have no:∀z:Str,(x == z)=true->x=z:=λz q=>by simpa using q
   rw[a0c]at al
   by_cases h1:(x == "one")=true
   .rw[ai h1]at hf
    cases y<;>first|(simp[a2b]at hf;done)|skip
    rename_i z;obtain rfl:=no _ h1;unfold a2b K20.a8w at hf;simp only[af,b9]at hf;refine⟨.one z.cps.toList,by rw[sd,a2v],hf.1.1,hf.1.2,?_⟩
    have ho':a7x tg z.cps.toList=true:=ho;exact λc hc=>bI (aO.mp ho' c hc)
   rw[aL h1]at hf al
   by_cases h2:(x == "row")=true
   .rw[ai h2]at hf;rw[h2,fV,ai rfl]at al
    cases y<;>first|(simp[uy]at hf;done)|skip
    rename_i ps;obtain⟨ss,rfl,ks⟩:=aik ih ps al;obtain rfl:=no _ h2;have l:=bI hf;rw[acd]at l;exact⟨.row ss,by rw[sd],by omega,ks⟩
   rw[aL h2]at hf
   by_cases h3:(x == "either")=true
   .rw[ai h3]at hf;rw[h3,Bool.or_true,ai rfl]at al
    cases y<;>first|(simp[uy]at hf;done)|skip
    rename_i ps;obtain⟨ss,rfl,ks⟩:=aik ih ps al;obtain rfl:=no _ h3;have l:=bI hf;rw[acd]at l;exact⟨.eit ss,by rw[sd],by omega,by omega,ks⟩
   rw[aL h3]at hf;rw[aL (by simp[h2,h3]),bD,cU,cE]at al
   obtain⟨s,rfl,k⟩:=ih y al;obtain rfl:=no _ hf;exact⟨.many s,by rw[sd],k⟩
  .rename_i x y a b;have no:∀z:Str,(x == z)=true->x=z:=λz q=>by simpa using q
   simp only[af,dR]at hf;obtain⟨h1,h2,h3,h4,h5,h6⟩:=hf;rw[a0c,aL (by simp[h1]),aL (by simp[h2,h3]),bD,cU,cE]at al
   obtain⟨s,rfl,k⟩:=ih y al;obtain rfl:=no _ h5;unfold alo at h6;rw[af]at h6;obtain⟨j,rfl,j0,j1⟩:=K20.aqn h6.1;obtain⟨i,rfl,i0,i1⟩:=K20.aqn (lo:=0) (hi:=j) h6.2;refine⟨.tim s i.toNat j.toNat,?_,by omega,by omega,k⟩
   rw[sd,show bj i.toNat=.int i from ah D.int (by omega),show bj j.toNat=.int j from ah D.int (by omega)]
  .cases hf
end K16
namespace K16
open L2 MI AT HND EVX
open K20 (a4a uy a2b isInt a3b isStr Deep)
theorem arl{f g:ST}{τ:Sd}{h:Hd}{a b:Bool}(e1:f τ h=.ok a h)(e2:a=true->g τ h=.ok b h):zj f g τ h=.ok (a && b) h:=by
 cases a with
 |false=>exact a5j e1
 |true=>exact a4f e1 (e2 rfl)
theorem orB{f g:ST}{τ:Sd}{h:Hd}{a b:Bool}(e1:f τ h=.ok a h)(e2:a=false->g τ h=.ok b h):sOr f g τ h=.ok (a || b) h:=by
 cases a with
 |false=>exact orF e1 (e2 rfl)
 |true=>exact orT e1
theorem az9{d:D}(p:PAP.Pln d){τ:Sd}{h:Hd}{i:Nat}(v:τ[i]? = some (some d)):xu (sA kh (aa (sV i) (aa (sC (.ty "int")) aq))) τ h=.ok (isInt d || a3b d) h:=j5 (kj (au v) ckk (K20.avt p)) (di _)
theorem aza{d:D}(p:PAP.Pln d){τ:Sd}{h:Hd}{i:Nat}(v:τ[i]? = some (some d)):xu (sA kh (aa (sV i) (aa (sC (.ty "bool")) aq))) τ h=.ok (a3b d) h:=j5 (kj (au v) ckk (K20.avu p)) (di _)
def iu:SF:=jw a02 2
theorem aqy{a b:D}(pa:PAP.Pln a)(pb:PAP.Pln b):Pu iu 1 [.tup [a,b]] (.bl (isInt a && isInt b)):=by
 have ca:MI.clo 0 (.tup [a,b]):=gh (ak pa.clo (ak pb.clo bx));refine K20.a2a rfl (K20.ar1 ca) (h':=[]) ?_;unfold iu;rw[dm];show toR (a02 [some (.tup [a,b]),none] [])=_;unfold a02;refine eti (rm (j5 (kj (au rfl) ckk (PAP.a6q ca)) (di _))) ?_;refine etr (a79 (a7t (au rfl) (adv _ _))) ?_;have cond:∀(x:D) (h:Hd),PAP.Pln x->sOr (yh (xu (sA kh (aa (sV 1) (aa (sC (.ty "int")) aq))))) (xu (sA kh (aa (sV 1) (aa (sC (.ty "bool")) aq)))) [some (.tup [a,b]),some x] h=.ok (!isInt x) h:=λx h p=>by
  have:=orB (a := !(isInt x || a3b x)) (K20.adu (az9 p (i:=1) (τ:=[some (.tup [a,b]),some x]) (h:=h) rfl)) (λ_=>aza p (i:=1) rfl)
  rw[this]
  congr 1
  cases x<;>rfl
 have lp:=a0z (g:=kN 1) (b:=km) (λx:D=>x)
  (λpre τ hh=>∃v,τ=[some (.tup [a,b]),v]/\hh=[]/\pre.all isInt=true)
  (λv hh=>v=.bl false/\hh=[]/\([a,b]:List D).all isInt=false)
  [a,b] [] [some (.tup [a,b]),none] [] ?_ ⟨none,rfl,rfl,rfl⟩
 .rw[da]at lp;have ev:([a,b]:List D).all isInt=(isInt a && isInt b):=by simp
  rcases lp with⟨τ',h',e',v,rfl,rfl,pe⟩|⟨v,h',e',rfl,rfl,pe⟩
  .refine ar (ah (λz=>toR (thn z _)) e') ?_;rw[bR,ev]at pe;rw[a1e,pe];exact ah toR (fu ckk)
  .refine ar (ah (λz=>toR (thn z _)) e') ?_;rw[a6i,<-ev,pe];rfl
 .rintro pre x post τ hh all ⟨v,rfl,rfl,pe⟩
  rw[bR]at all;have px:PAP.Pln x:=by
   have:x∈[a,b]:=by rw[all];simp
   simp only[aV,c8,eF]at this
   rcases this with rfl|rfl
   .exact pa
   .exact pb
  refine⟨_,_,rfl,?_⟩
  cases hx:isInt x with
  |false =>
   have c:=cond x [] px;rw[hx]at c;refine .inr ⟨.bl false,[],?_,rfl,rfl,?_⟩
   .unfold km;exact ar (ifT c) (fu ckk)
   .rw[all];simp[hx]
  |true =>
   have c:=cond x [] px;rw[hx]at c;refine .inl ⟨[some (.tup [a,b]),some x],[],?_,_,rfl,rfl,?_⟩
   .unfold km;exact ar (ifF c) rfl
   .simp[pe,hx]
def c7:Nat->SF
 |0=>λ_ _=>.no
 |n+1=>jw (vq (c7 n) bh iu) 5
theorem a92(l:List Nat)(h:Hd):a76 [.rol (l.map bj)] h=.ok (bj l.sum) h:=by
 have e:l.map bj=(l.map λn:Nat=>(n:Int)).map D.int:=by rw[cK];rfl
 have s:∀l:List Nat,(l.map λn:Nat=>(n:Int)).sum=(l.sum:Nat):=λl=>by
  induction l with
  |nil=>rfl
  |cons x l ih=>rw[b6,dS,dS,ih];omega
 unfold a76;simp only[e,SRC.ints_map,s]
theorem ch3{f g k l:SE}{τ:Sd}{h:Hd}{a x y b:Int}(e1:f τ h=.ok (.int a) h)(e2:g τ h=.ok (.int x) h)(e3:k τ h=.ok (.int y) h)(e4:l τ h=.ok (.int b) h) :
  aqb gLe gLe gLe f g k l τ h=.ok (.bl (decide (a<=x) && (decide (x<=y) && decide (y<=b)))) h:=by
 have le:∀p q:Int,gLe (.int p) (.int q) h=.ok (.bl (decide (p<=q))) h:=λp q=>rfl;unfold aqb;rw[e1,bc,e2,bc,le,bc]
 cases decide (a<=x) with
 |false=>rfl
 |true =>
  simp only[bM,e3,bc,le]
  cases decide (x<=y) with
  |false=>rfl
  |true=>simp only[bM,e4,bc,le]
abbrev τC(t:D)(tg:List Nat)(d:Nat)(p c:Option D):Sd:=[some t,some (.str (S tg)),some (bj d),p,c]
abbrev endC(F:SF):SS:=gj (jm 4 (sZ (qi (sIt (sV 3)) t1 (pq F bh iu) [1,2])))
 (ju (agc (sOr (sT (s2 (a8o false) (sV 4) (sZ (sA wu aq)))) (sT (s2 (gIn false) (sI 0) (sV 4)))) (sI 0) (s2 gw (sI 1) (sA a76 (aa (sV 4) aq)))))
noncomputable def tot(cs:List Nat):Nat:=if cs=[]\/0∈cs then 0 else 1+cs.sum
theorem awd{F:SF}{tg:List Nat}{d:Nat}{t:D}{ps:List D}{f:D->Nat}(l:ps.length<=6)(ih:∀p∈ps,Pu F 3 [p,.str (S tg),bj d] (bj (f p))) :
  toR (endC F (τC t tg (d+1) (some (.rol ps)) none) [])=.ok (bj (tot (ps.map f))) []:=by
 have z:sZ (qi (sIt (sV 3)) t1 (pq F bh iu) [1,2]) (τC t tg (d+1) (some (.rol ps)) none) []=.ok (.rol ((ps.map f).map bj)) []:=by
  refine a5i ?_ (gf λ_ _=>bz _) (by simp)
  rw[cK];refine zy (λp:D=>p) (λp=>bj (f p)) ps (a7t (au rfl) (by rw[da];rfl)) (dh (by omega)) λp hp=>?_
  rw[yo];unfold pq;exact a3a (au rfl) (au rfl) (mz rfl (az5 (a:=d+1) (b:=1) (by omega))) (ih p hp _)
 refine etr (jr z) ?_
 generalize ps.map f=cs
 have e0:sZ (sA MI.wu aq) (List.set (τC t tg (d+1) (some (.rol ps)) none) 4 (some (.rol (cs.map bj)))) []=.ok (.rol []) []:=zds nlo rfl bx nlc (by simp)
 have v4:sV 4 (List.set (τC t tg (d+1) (some (.rol ps)) none) 4 (some (.rol (cs.map bj)))) []=.ok (.rol (cs.map bj)) []:=au rfl;have c:sOr (sT (s2 (a8o false) (sV 4) (sZ (sA MI.wu aq)))) (sT (s2 (gIn false) (sI 0) (sV 4))) (List.set (τC t tg (d+1) (some (.rol ps)) none) 4 (some (.rol (cs.map bj)))) []=.ok (cs.isEmpty || decide (0∈cs)) [] :=
  orB (t2s v4 e0 (ai5 _ _)) λ_=>t2s ckk v4 (DRW.aw9 0 cs _)
 have q:(cs.isEmpty || decide (0∈cs))=decide (cs=[]\/0∈cs):=by cases cs<;>simp
 rw[q]at c;unfold tot
 by_cases w:cs=[]\/0∈cs
 .rw[aw w]at c;rw[ai w];exact ah toR (fu (SRC.b2n c ckk))
 .rw[av w]at c;rw[aL w];exact ah toR (fu (SRC.b2o c (jq ckk (m9 v4 (a92 _ _)) (DRW.aat (a:=1)))))
theorem awe{tg:List Nat}(ht:∀c∈tg,c∈sig){x:Str}{y:D}{r:List D}(h:(x == "one")=true):(jo (.tup (.str x::y::r)) && okP tg (.tup (.str x::y::r)))=(r.isEmpty && alv tg y):=by
 match r with
 |[] =>
  show((if (x == "one")=true then a2b y else _) && okP tg (.tup [.str x,y]))=alv tg y
  rw[ai h]
  cases y<;>first|rfl|skip
  rename_i z;show(a2b (.str z) && (match (if (x == "one")=true then some z.cps.toList else none) with|some l=>a7x tg l|none=>true))=alu tg z.cps.toList
  rw[ai h,ai6 ht];rfl
 |[a]=>rfl
 |[a,b] =>
  show((!(x == "one") && _) && _)=false;rw[h];rfl
 |a::b::c::r=>rfl
theorem awf{tg:List Nat}{x:Str}{y:D}{r:List D}(h:(x == "one")=false):okP tg (.tup (.str x::y::r))=true:=by
 cases y<;>first|rfl|skip
 rename_i z;show(match (if (x == "one")=true then some z.cps.toList else none) with|some l=>a7x tg l|none=>true)=true
 rw[aL (by rw[h];decide)]
theorem azb{x:Str}{r:List D}{τ:Sd}{h:Hd}:sT (s2 (gIn false) (s2 gIx (sV 0) (sI 0)) (sA MI.jl (aa (sC (.str "row")) (aa (sC (.str "either")) aq)))) (some (.tup (.str x::r))::τ) h=.ok (x == "row" || x == "either") h:=by
 have e:(("row" : Str) == x || (("either" : Str) == x || false))=(x == "row" || x == "either"):=by
  rw[eU,Bool.beq_comm (a:=("row" : Str)),Bool.beq_comm (a:=("either" : Str))]
 have:=DRW.a6v x h
 rw[e]at this;exact t2s (mz rfl ix0) (kj ckk ckk yt) this
noncomputable def smT:D->Bool|.tup ps=>decide ((ps.length:Int)<=6)|_=>false
theorem awg(y:D):smT y=uy 0 6 y:=by
 cases y<;>first|rfl|skip
 rename_i ps;exact cF.mpr (by omega)
theorem azc{x:Str}{y:D}{r:List D}{τ:Sd}{h:Hd}(py:PAP.Pln y) :
  zj (sT (s2 (gIn false) (s2 gIx (sV 0) (sI 0)) (sA MI.jl (aa (sC (.str "row")) (aa (sC (.str "either")) aq))))) (zj (sT (s2 hEq (sA my (aa (sV 0) aq)) (sI 2))) (zj (xu (sA kh (aa (s2 gIx (sV 0) (sI 1)) (aa (sC (.ty "tuple")) aq)))) (sT (s2 gLe (sA my (aa (s2 gIx (sV 0) (sI 1)) aq)) (sI 6))))) (some (.tup (.str x::y::r))::τ) h
   = .ok ((x == "row" || x == "either") && (r.isEmpty && uy 0 6 y)) h:=by
 rw[<-awg];refine arl azb λ_=>arl ?_ λ_=>?_
 .have:=ark (xs:=.str x::y::r) (τ:=τ) (h:=h) 2
  have e:decide ((D.str x::y::r).length=2)=r.isEmpty:=by cases r<;>simp
  rw[e]at this;exact tof this
 .have a:=arl (b:=smT y) (j5 (kj (jq (au (i:=0) rfl) ckk ix1) ckk (PAP.a6q py (h:=h))) (di _)) (τ:=some (.tup (.str x::y::r))::τ) (g:=sT (s2 gLe (sA my (aa (s2 gIx (sV 0) (sI 1)) aq)) (sI 6))) λt=>by
   cases y<;>first|(cases t;done)|skip
   rename_i ps;exact t2s (m9 (mz rfl ix1) (K20.len_T ps h)) ckk rfl
  rw[a]
  cases y<;>rfl
theorem azd{x:Str}{y:D}{r:List D}{τ:Sd}{h:Hd}:zj (sT (s2 hEq (s2 gIx (sV 0) (sI 0)) (sC (.str "many")))) (sT (s2 hEq (sA my (aa (sV 0) aq)) (sI 2))) (some (.tup (.str x::y::r))::τ) h=.ok (x == "many" && r.isEmpty) h:=by
 refine arl a7w λ_=>?_;have:=ark (xs:=.str x::y::r) (τ:=τ) (h:=h) 2;have e:decide ((D.str x::y::r).length=2)=r.isEmpty:=by cases r<;>simp
 rw[e]at this;exact tof this
def tmB:List D->Bool|[a,b]=>alo a b|_=>false
theorem awh{a b:D}(h:(isInt a && isInt b)=false):alo a b=false:=by
 cases b with
 |int j =>
  have h:isInt a=false:=by simpa[isInt] using h
  show(a4a 0 4 (.int j) && a4a 0 j a)=false;rw[K20.avv h,cO]
 |_=>rfl
theorem aze{x:Str}{y:D}{r:List D}{τ:Sd}{h:Hd}(pr:∀a∈r,PAP.Pln a) :
  zj (sT (s2 hEq (s2 gIx (sV 0) (sI 0)) (sC (.str "times")))) (zj (sT (s2 hEq (sA my (aa (sV 0) aq)) (sI 4))) (zj (xu (sA (j8 false 1 iu) (aa (a2g (sV 0) (oS (sI 2)) oN) aq))) (sT (aqb gLe gLe gLe (sI 0) (s2 gIx (sV 0) (sI 2)) (s2 gIx (sV 0) (sI 3)) (sI 4))))) (some (.tup (.str x::y::r))::τ) h
   = .ok (x == "times" && tmB r) h:=by
 refine arl a7w λ_=>?_;have l4:=tof (ark (xs:=.str x::y::r) (τ:=τ) (h:=h) 4)
 by_cases e:(D.str x::y::r).length=4
 .rw[aw e]at l4
  match r,e with
  |[a,b],_ =>
   have sl:a2g (sV 0) (oS (sI 2)) oN (some (.tup [.str x,y,a,b])::τ) h=.ok (.tup [a,b]) h:=PAP.a5r (au rfl) (PAP.a5f ckk) onn (PAP.yu _ 2 _);have pa:=pr a (by simp)
   have pb:=pr b (by simp)
   refine a4f l4 ?_;have row:=j5 (m9 sl (aqy pa pb h)) (di _)
   cases hi:isInt a && isInt b with
   |false =>
    rw[hi]at row;have:tmB [a,b]=false:=awh hi;rw[this];exact a5j row
   |true =>
    rw[hi]at row;rw[af]at hi;obtain⟨i,rfl⟩:∃i,a=.int i:=by cases a<;>first|exact⟨_,rfl⟩|simp[isInt]at hi
    obtain⟨j,rfl⟩:∃j,b=.int j:=by cases b<;>first|exact⟨_,rfl⟩|simp[isInt]at hi
    have c:=ch3 (f:=sC (.int 0)) (g:=s2 gIx (sV 0) (sI 2)) (k:=s2 gIx (sV 0) (sI 3)) (l:=sC (.int 4)) (τ:=some (.tup [.str x,y,.int i,.int j])::τ) (h:=h) ckk (mz rfl ix2) (mz rfl ix3) ckk;have e:(decide ((0:Int)<=i) && (decide (i<=j) && decide (j<=4)))=tmB [.int i,.int j]:=by
     show _=(decide (0<=j/\j<=4) && decide (0<=i/\i<=j));rw[cQ];simp only[af,b9];omega
    rw[e]at c;exact a4f row (tof c)
 .rw[av e]at l4;have:tmB r=false:=by
   match r,e with
   |[],_=>rfl
   |[_],_=>rfl
   |[_,_],e=>exact absurd rfl e
   |_::_::_::_,_=>rfl
  rw[this];exact a5j l4
theorem aqz{x:Str}{y:D}{r:List D}(h:(x == "one")=false):jo (.tup (.str x::y::r))=((x == "row" && (r.isEmpty && uy 0 6 y)) || (x == "either" && (r.isEmpty && uy 1 6 y)) || (x == "many" && r.isEmpty) || (x == "times" && tmB r)):=by
 have no:∀z:Str,(x == z)=true->x=z:=λz q=>by simpa using q
 match r with
 |[] =>
  show(if (x == "one")=true then a2b y else if (x == "row")=true then uy 0 6 y else if (x == "either")=true then uy 1 6 y else x == "many")=_
  rw[aL (by rw[h];decide)]
  show _=((x == "row" && uy 0 6 y) || (x == "either" && uy 1 6 y) || (x == "many" && true) || (x == "times" && false))
  rw[cE,cO,eU]
  by_cases h1:(x == "row")=true
  .obtain rfl:=no _ h1
   rw[ai h1,show(("row" : Str) == "either")=false by decide +kernel,show(("row" : Str) == "many")=false by decide +kernel,h1]
   simp
  rw[aL h1]
  by_cases h2:(x == "either")=true
  .obtain rfl:=no _ h2
   rw[ai h2,show(("either" : Str) == "row")=false by decide +kernel,show(("either" : Str) == "many")=false by decide +kernel,h2]
   simp
  rw[aL h2,dZ h1,dZ h2];simp
 |[a]=>show false=_;simp[tmB]
 |[a,b] =>
  show(!(x == "one") && (!(x == "row") && (!(x == "either") && (!(x == "many") && (x == "times" && alo a b)))))=_;rw[h];show _=((x == "row" && (false && uy 0 6 y)) || (x == "either" && (false && uy 1 6 y)) || (x == "many" && false) || (x == "times" && alo a b))
  by_cases t:(x == "times")=true
  .obtain rfl:=no _ t
   rw[show(("times" : Str) == "either")=false by decide +kernel,show(("times" : Str) == "many")=false by decide +kernel,show(("times" : Str) == "row")=false by decide +kernel]
   simp
  .rw[dZ t];simp
 |a::b::c::r=>show false=_;simp[tmB]
noncomputable def lpT(t:D):List D:=if jo t=true then inT t else []
abbrev azf:SS:=(sIf (zj (sT (s2 (gIn false) (s2 gIx (sV 0) (sI 0)) (sA MI.jl (aa (sC (.str "row")) (aa (sC (.str "either")) aq))))) (zj (sT (s2 hEq (sA my (aa (sV 0) aq)) (sI 2))) (zj (xu (sA kh (aa (s2 gIx (sV 0) (sI 1)) (aa (sC (.ty "tuple")) aq)))) (sT (s2 gLe (sA my (aa (s2 gIx (sV 0) (sI 1)) aq)) (sI 6))))))
 (gj (sIf (sT (s2 av9 (sV 0) (sA MI.jl (aa (sC (.str "row")) (aa (sA MI.jl aq) aq)))))
 (ju (sI 1))
 sNx)
 (jm 3 (sZ (sA a1l (aa (s2 gIx (sV 0) (sI 1)) aq)))))
 (sIf (zj (sT (s2 hEq (s2 gIx (sV 0) (sI 0)) (sC (.str "many")))) (sT (s2 hEq (sA my (aa (sV 0) aq)) (sI 2))))
 (jm 3 (sZ (sA MI.wu (aa (s2 gIx (sV 0) (sI 1)) aq))))
 (sIf (zj (sT (s2 hEq (s2 gIx (sV 0) (sI 0)) (sC (.str "times")))) (zj (sT (s2 hEq (sA my (aa (sV 0) aq)) (sI 4))) (zj (xu (sA (j8 false 1 iu) (aa (a2g (sV 0) (oS (sI 2)) oN) aq))) (sT (aqb gLe gLe gLe (sI 0) (s2 gIx (sV 0) (sI 2)) (s2 gIx (sV 0) (sI 3)) (sI 4))))))
 (jm 3 (sZ (sA MI.wu (aa (s2 gIx (sV 0) (sI 1)) aq))))
 sNx)))
theorem awi{tg:List Nat}{d:Nat}{x:Str}{y:D}{r:List D}(h1:(x == "one")=false)(k:Deep 2 (.tup (.str x::y::r))) :
  (azf (τC (.tup (.str x::y::r)) tg (d+1) (some (.rol [])) none) []=.rt (.int 1) []/\jo (.tup (.str x::y::r))=true/\inT (.tup (.str x::y::r))=[])
  \/ (azf (τC (.tup (.str x::y::r)) tg (d+1) (some (.rol [])) none) []=.nx (τC (.tup (.str x::y::r)) tg (d+1) (some (.rol (lpT (.tup (.str x::y::r))))) none) []
   /\ (jo (.tup (.str x::y::r))=true->inT (.tup (.str x::y::r))≠[])):=by
 have no:∀z:Str,(x == z)=true->x=z:=λz q=>by simpa using q
 have kp:=(k.2 _ rfl).2;have py:PAP.Pln y:=(kp y (by simp)).pln
 have pr:∀a∈r,PAP.Pln a:=λa ha=>(kp a (by simp[ha])).pln
 have fm:=aqz (y:=y) (r:=r) h1;have c1:=azc (x:=x) (y:=y) (r:=r) (τ:=[some (.str (S tg)),some (bj (d+1)),some (.rol []),none]) (h:=[]) py;have c2:=azd (x:=x) (y:=y) (r:=r) (τ:=[some (.str (S tg)),some (bj (d+1)),some (.rol []),none]) (h:=[]);have c3:=aze (x:=x) (y:=y) (r:=r) (τ:=[some (.str (S tg)),some (bj (d+1)),some (.rol []),none]) (h:=[]) pr;have one:sZ (sA MI.wu (aa (s2 gIx (sV 0) (sI 1)) aq)) (τC (.tup (.str x::y::r)) tg (d+1) (some (.rol [])) none) []=.ok (.rol [y]) [] :=
  zds (cns (mz rfl ix1) nlo) rfl (ak py.clo bx) nlc (by simp)
 cases v1:(x == "row" || x == "either") && (r.isEmpty && uy 0 6 y) with
 |true =>
  rw[v1]at c1;simp only[af]at v1;obtain⟨w,rn,ly⟩:=v1;obtain rfl:r=[]:=by simpa using rn
  obtain⟨ps,rfl⟩:∃ps,y=.tup ps:=by cases y<;>first|exact⟨_,rfl⟩|simp[uy]at ly
  have il:inT (.tup [.str x,.tup ps])=ps:=by rw[a0c,aL (by rw[h1];decide),ai w]
  have ee:s2 av9 (sV 0) (sA MI.jl (aa (sC (.str "row")) (aa (sA MI.jl aq) aq))) (τC (.tup [.str x,.tup ps]) tg (d+1) (some (.rol [])) none) []=.ok (.bl (x == "row" && ps.isEmpty)) []:=jq (au rfl) (kj ckk (aoo nlo PAP.a7b) yt) rfl
  cases v2:x == "row" && ps.isEmpty with
  |true =>
   rw[v2]at ee;rw[af]at v2;obtain rfl:ps=[]:=by simpa using v2.2
   refine .inl ⟨?_,?_,il⟩
   .exact ar (ifT c1) (jx (ar (ifT (tof ee)) (fu ckk)))
   .rw[fm,v2.1];rfl
  |false =>
   rw[v2]at ee;have lz:sZ (sA a1l (aa (s2 gIx (sV 0) (sI 1)) aq)) (τC (.tup [.str x,.tup ps]) tg (d+1) (some (.rol [])) none) []=.ok (.rol ps) []:=EVT.xq (mz rfl ix1) rfl py nlc;have run:azf (τC (.tup [.str x,.tup ps]) tg (d+1) (some (.rol [])) none) []=.nx (τC (.tup [.str x,.tup ps]) tg (d+1) (some (.rol ps)) none) []:=by
    refine ar (ifT c1) ?_;refine ar (ifN (tof ee)) ?_;unfold jm;rw[lz];rfl
   have lp:lpT (.tup [.str x,.tup ps])=ps:=by
    unfold lpT;rw[il]
    split
    .rfl
    .rename_i nf;rw[fm]at nf
     cases ps with
     |nil=>rfl
     |cons p ps =>
      exfalso
      apply nf
      have l1:=bI ly;have l2:uy 1 6 (.tup (p::ps))=true:=aw (by simp only[aM]at l1 ⊢;omega)
      rw[ly,l2]
      rcases cR _ _ ▸ w with q|q
      .rw[q];simp
      .rw[q];simp
   refine .inr ⟨by rw[lp];exact run,λft e=>?_⟩
   rw[il]at e;subst e;have v2:(x == "row")=false:=by simpa using v2
   rw[fm,v2]at ft;simp[uy,tmB]at ft;rw[v2,fM]at w;have e2:=no _ w;subst e2;exact absurd ft (by decide +kernel)
 |false =>
  rw[v1]at c1
  cases v2:x == "many" && r.isEmpty with
  |true =>
   rw[v2]at c2;rw[af]at v2;obtain rfl:r=[]:=by simpa using v2.2
   have e2:=no _ v2.1;subst e2;have ft:jo (.tup [.str "many",y])=true:=by rw[fm,v2.1];simp
   have il:inT (.tup [.str "many",y])=[y]:=by rw[a0c,aL (by decide +kernel),aL (by decide +kernel)]
   refine .inr ⟨?_,λ_=>by rw[il];simp⟩
   refine ar (ifF c1) ?_;refine ar (ifT c2) ?_;unfold jm lpT;rw[one,ai ft,il];rfl
  |false =>
   rw[v2]at c2
   cases v3:x == "times" && tmB r with
   |true =>
    rw[v3]at c3;have e2:=no _ (af _ _ ▸ v3).1;have ft:jo (.tup (.str x::y::r))=true:=by rw[fm,v3];simp
    subst e2;have il:inT (.tup (.str "times"::y::r))=[y]:=by rw[a0c,aL (by decide +kernel),aL (by decide +kernel)]
    refine .inr ⟨?_,λ_=>by rw[il];simp⟩
    refine ar (ifF c1) ?_;refine ar (ifF c2) ?_;refine ar (ifT c3) ?_;unfold jm lpT;rw[one,ai ft,il];rfl
   |false =>
    rw[v3]at c3;have nf:jo (.tup (.str x::y::r))=false:=by
     have l01:uy 1 6 y=true->uy 0 6 y=true:=λq=>by
      cases y<;>first|(simp[uy]at q;done)|skip
      rename_i ps;exact aw (by have:=bI q;omega)
     rw[fm,v2,v3];rw[Bool.eq_false_iff]
     intro q
     simp only[eU,cR,af]at q
     apply Bool.eq_false_iff.mp v1
     simp only[cR,af]
     rcases q with⟨a,b,c⟩|⟨a,b,c⟩
     .exact⟨.inl a,b,c⟩
     .exact⟨.inr a,b,l01 c⟩
    refine .inr ⟨?_,λz=>by rw[nf]at z;cases z⟩
    refine ar (ifF c1) ?_;refine ar (ifF c2) ?_;refine ar (ifF c3) ?_;unfold lpT;rw[aL (by rw[nf];decide)]
    rfl
theorem a6w{tg:List Nat}(ht:∀c∈tg,c∈sig):∀{n d:Nat} {t:D},Deep (2*d) t->d<n->Pu (c7 n) 3 [t,.str (S tg),bj d] (bj (ct tg d t))
 |0,d,t,k,h=>absurd h (by omega)
 |n+1,d,t,k,h=>by
  refine Pu.of rfl (K20.ar3 k.pln.clo (cj _) (bz _)) (r:=.ok (bj (ct tg d t)) []) ?_ (je (bz _) (by simp)) (bz _)
  rw[c7,dm];show toR (vq (c7 n) bh iu (τC t tg d none none) [])=_;unfold vq;have ist:=j5 (kj (au (i:=0) (τ:=τC t tg d none none) (h:=[]) rfl) ckk (PAP.a6q k.pln (h:=[]))) (di _);have zero:∀{g:SS} {c:ST},c (τC t tg d none none) []=.ok true []->ct tg d t=0->toR (gj (sIf c (ju (sI 0)) sNx) g (τC t tg d none none) [])=.ok (bj (ct tg d t)) []:=λc e=>by
   rw[e];exact ah toR (jx (ar (ifT c) (fu ckk)))
  have ctf:jo t=false->ct tg d t=0:=λnf=>by
   cases d with
   |zero=>rfl
   |succ d=>rw[ct,nf,dC,aL (by decide)]
  cases hi:PAP.isTup t with
  |false =>
   rw[hi]at ist;exact zero (orT (a0r ist)) (ctf (by cases t<;>first|rfl|simp[PAP.isTup]at hi))
  |true =>
   rw[hi]at ist;obtain⟨xs,rfl⟩:∃xs,t=.tup xs:=by cases t<;>first|exact⟨_,rfl⟩|simp[PAP.isTup]at hi
   have lt:s2 gLt (sA my (aa (sV 0) aq)) (sI 2) (τC (.tup xs) tg d none none) []=.ok (.bl (decide ((xs.length:Int)<2))) []:=jq (m9 (au rfl) (K20.len_T xs _)) ckk rfl
   match xs with
   |[]=>exact zero (orF (rm ist) (orT (tof lt))) (ctf rfl)
   |[a]=>exact zero (orF (rm ist) (orT (tof lt))) (ctf (by cases a<;>rfl))
   |a::y::r =>
    have lt':s2 gLt (sA my (aa (sV 0) aq)) (sI 2) (τC (.tup (a::y::r)) tg d none none) []=.ok (.bl false) []:=by
     rw[lt,av (by simp only[aM];omega)]
    cases d with
    |zero=>exact zero (orF (rm ist) (orF (tof lt') (orT (tvc rfl (vm (by simp)))))) rfl
    |succ d =>
     have k2:Deep (2*d+2) (.tup (a::y::r)):=k;have dn:∀{a b:Nat} {u:D},Deep (a+b) u->Deep a u:=λ{a b u} q=>by
      induction b with
      |zero=>exact q
      |succ b ihb=>exact ihb q.down
     have k3:Deep 2 (.tup (a::y::r)):=dn (a:=2) (b:=2*d) (by rwa[eH 2])
     have kp:=(k3.2 _ rfl).2;have pa:PAP.Pln a:=(kp a (by simp)).pln
     have py:PAP.Pln y:=(kp y (by simp)).pln
     have ne:sT (s2 hEq (sV 2) (sI 0)) (τC (.tup (a::y::r)) tg (d+1) none none) []=.ok false []:=tvc rfl (ux (by omega))
     have iss:=j5 (kj (jq (au (i:=0) (τ:=τC (.tup (a::y::r)) tg (d+1) none none) (h:=[]) rfl) (a70 (.int 0) _ _) ix0) ckk (K20.ac1 pa (h:=[]))) (di _)
     cases hs:isStr a with
     |false =>
      rw[hs]at iss;refine zero (orF (rm ist) (orF (tof lt') (orF ne (a0r iss)))) (ctf ?_)
      cases a<;>first|(cases hs;done)|(match r with|[]=>rfl|[_]=>rfl|[_,_]=>rfl|_::_::_::_=>rfl)
     |true =>
      rw[hs]at iss;obtain⟨x,rfl⟩:∃x,a=.str x:=by cases a<;>first|exact⟨_,rfl⟩|simp[isStr]at hs
      refine eti (orF (rm ist) (orF (tof lt') (orF ne (rm iss)))) ?_;have tb:=a7w (x:=x) (y := "one") (r:=y::r) (τ:=[some (.str (S tg)),some (bj (d+1)),none,none]) (h:=[])
      cases h1:x == "one" with
      |true =>
       rw[h1]at tb;refine ah toR (jx (ar (ifT tb) (fu ?_)));have e:=awe ht (y:=y) (r:=r) h1;have ln:=ark (xs:=.str x::y::r) (τ:=[some (.str (S tg)),some (bj (d+1)),none,none]) (h:=[]) 2;have le:decide ((D.str x::y::r).length=2)=r.isEmpty:=by cases r<;>simp
       rw[le]at ln;have il:inT (.tup (.str x::y::r))=[]:=by rw[a0c,ai h1]
       have cv:ct tg (d+1) (.tup (.str x::y::r))=if (r.isEmpty && alv tg y)=true then 1 else 0:=by
        rw[ct,e,il];rfl
       rw[cv];have gi:∀b:Bool,ak6 [.bl b] []=.ok (bj (if b=true then 1 else 0)) []:=λb=>by cases b<;>rfl
       refine m9 ?_ (gi _)
       cases hr:r.isEmpty with
       |false=>rw[hr]at ln;exact PAP.a4t ln
       |true=>rw[hr]at ln;exact a3u ln (kj (mz rfl ix1) (au rfl) (aan py _))
      |false =>
       rw[h1]at tb;refine etr (ifN tb) ?_;refine ets (zds nlo rfl bx nlc (by simp)) ?_
       have ih:∀p∈lpT (.tup (.str x::y::r)),Pu (c7 n) 3 [p,.str (S tg),bj d] (bj (ct tg d p)):=λp hp=>by
        unfold lpT at hp
        split at hp
        .rename_i f;exact a6w ht (n:=n) (a4u (n:=2*d) k2 f hp) (by omega)
        .simp at hp
       have ok:=awf (tg:=tg) (y:=y) (r:=r) h1
       rcases awi (tg:=tg) (d:=d) h1 k3 with⟨e,f,i0⟩|⟨e,ni⟩
       .refine etr (jx e) ?_;rw[ct,f,ok,i0];rfl
       .refine etr (wj e) ?_;have ll:(lpT (.tup (.str x::y::r))).length<=6:=by
         unfold lpT
         split
         .rename_i f;exact ahy f
         .simp
        refine ar (awd ll ih) ?_
        congr 2
        rw[ct,ok,cE];unfold lpT tot
        cases f:jo (.tup (.str x::y::r)) with
        |false=>simp
        |true =>
         rw[ai rfl,ai rfl];have:(inT (.tup (.str x::y::r))).map (ct tg d)≠[]:=λz=>ni f (eZ.mp z);simp[this]
end K16
namespace K16
open L2 MI AT HND EVX
open K20 (a4a uy a2b isInt a3b isStr Deep)
open DRW (nmD az)
theorem awj(c:Nat):decide (c∈az)=a3c c:=by
 have lo:∀c:Nat,c<128->decide (c∈az)=a3c c:=by decide +kernel
 by_cases h:c<128
 .exact lo c h
 .have:c∉az:=λz=>by
   have:∀c∈az,c<128:=by decide +kernel
   exact h (this c z)
  rw[av this];unfold a3c;rw[av (show ¬ c<=122 by omega),cO]
theorem a4w(neg:Bool)(l:List (List Nat))(h:Hd):a8o neg (.rol (l.map nmD)) (.rol []) h=.ok (.bl (if neg=true then !l.isEmpty else l.isEmpty)) h:=by
 have p:(l.map nmD).all (pur 59)=true:=by
  rw[aO]
  intro x hx
  obtain⟨y,_,rfl⟩:=bF.mp hx;rfl
 unfold a8o;simp only[zu,p,cU,Bool.and_self,dB]
 cases l<;>rfl
noncomputable def nmL(d:D):Option (List Nat):=(nmO d).map λx=>x.cps.toList
theorem ao0:∀rs:List D,(rs.filterMap nmL).Nodup↔(rs.filterMap nmO).Nodup:=λrs=>by
 have m:rs.filterMap nmL=(rs.filterMap nmO).map λx=>x.cps.toList:=by
  rw[List.map_filterMap];rfl
 rw[m]
 constructor
 .exact λh=>List.Pairwise.of_map _ (λa b q e=>q (by rw[e])) h
 .intro h
  refine fH.mpr (List.Pairwise.imp (λ{a b} hab z=>hab ?_) h);rw[<-a2v a,<-a2v b,z]
def j4:SF:=jw (vy (c7 6) bh SRC.bw) 4
abbrev τB(d:D)(r s:Option D):Sd:=[some d,some (.ref 0),r,s]
theorem ace{t:List Nat}{rs ns:List D}{x:D}{a b:Option D}{nl:List (List Nat)}(ht:∀c∈t,c∈sig)(px:Deep 11 x)(nn:nl.length<=7) :
  (a7c t x=false\/∃n,nmL x=some n/\n∈nl)/\(∃h',m8 (c7 6) bh SRC.bw (τB (.tup [.str (S t),.tup rs]) (some x) b) [.lst (nl.map nmD)]=.rt (.bl false) h')
  \/ ∃n b',a7c t x=true/\nmL x=some n/\n∉nl/\m8 (c7 6) bh SRC.bw (τB (.tup [.str (S t),.tup rs]) (some x) b) [.lst (nl.map nmD)]=.nx (τB (.tup [.str (S t),.tup rs]) (some x) b') [.lst ((nl++[n]).map nmD)]:=by
 unfold m8;have stop:∀{c:ST} {g:SS} {τ:Sd} {h:Hd},c τ h=.ok true h->gj (sIf c (ju (sC (.bl false))) sNx) g τ h=.rt (.bl false) h:=λc=>jx (ar (ifT c) (fu ckk));have ist:=j5 (kj (au (i:=2) (τ:=τB (.tup [.str (S t),.tup rs]) (some x) b) (h:=[.lst (nl.map nmD)]) rfl) ckk (PAP.a6q px.pln (h:=_))) (di _)
 cases hi:PAP.isTup x with
 |false =>
  rw[hi]at ist;refine .inl ⟨.inl ?_,_,stop (orT (a0r ist))⟩
  cases x<;>first|rfl|simp[PAP.isTup]at hi
 |true =>
  rw[hi]at ist;obtain⟨xs,rfl⟩:∃xs,x=.tup xs:=by cases x<;>first|exact⟨_,rfl⟩|simp[PAP.isTup]at hi
  have ln:sT (s2 hNe (sA my (aa (sV 2) aq)) (sI 2)) (τB (.tup [.str (S t),.tup rs]) (some (.tup xs)) b) [.lst (nl.map nmD)]=.ok (!decide (xs.length=2)) [.lst (nl.map nmD)]:=by
   refine t2s (m9 (au rfl) (K20.len_T xs _)) ckk ?_;show R.ok (D.bl (!((xs.length:Int) == 2))) _=_
   congr 3
   rw[cQ,eV,b9];omega
  by_cases l2:xs.length=2
  .rw[aw l2]at ln
   match xs,l2 with
   |[n,s],_ =>
    have pn:PAP.Pln n:=((px.2 _ rfl).2 n (by simp)).pln
    have ps:Deep 10 s:=(px.2 _ rfl).2 s (by simp)
    have iss:=j5 (kj (jq (au (i:=2) (τ:=τB (.tup [.str (S t),.tup rs]) (some (.tup [n,s])) b) (h:=[.lst (nl.map nmD)]) rfl) (a70 (.int 0) _ _) ix0) ckk (K20.ac1 pn (h:=_))) (di _)
    cases hs:isStr n with
    |false =>
     rw[hs]at iss;refine .inl ⟨.inl ?_,_,stop (orF (rm ist) (orF ln (a0r iss)))⟩;show(ai0 n && _)=false
     cases n<;>first|rfl|simp[isStr]at hs
    |true =>
     rw[hs]at iss;obtain⟨x,rfl⟩:∃x,n=.str x:=by cases n<;>first|exact⟨_,rfl⟩|simp[isStr]at hs
     rw[ifN (orF (rm ist) (orF ln (rm iss)))];have xl:x.cps.toList.length<=1000:=pn;have rb:a7c t (.tup [.str x,s])=(ani x.cps.toList && decide (1<=ct t 5 s/\ct t 5 s<=24)):=by
      show(ai0 (.str x) && _)=_;rw[aij];rfl
     have nx:nmL (.tup [.str x,s])=some x.cps.toList:=rfl;rw[rb,nx]
     clear rb nx iss ln ist px pn
     rw[<-a2v x]
     generalize x.cps.toList=l at xl
     have g0:∀(v:Option D) (h:Hd),s2 gIx (sV 2) (sI 0) (τB (.tup [.str (S t),.tup rs]) (some (.tup [.str (S l),s])) v) h=.ok (.str (S l)) h:=λv h=>mz rfl ix0;have z:sZ (a1k (sIt (s2 gIx (sV 2) (sI 0))) t1 (qb (c7 6) bh SRC.bw) (yp (c7 6) bh SRC.bw) []) (τB (.tup [.str (S t),.tup rs]) (some (.tup [.str (S l),s])) b) [.lst (nl.map nmD)]=.ok (.rol (((l.filter λc => !a3c c).map λc=>[c]).map nmD)) [.lst (nl.map nmD)]:=by
      have fm:((l.filter λc => !a3c c).map λc=>[c]).map nmD=l.filterMap λc=>if a3c c=true then none else some (nmD [c]):=by
       clear g0 xl
       induction l with
       |nil=>rfl
       |cons c l ih =>
        rw[List.filter_cons,bJ]
        cases a3c c with
        |true=>simpa using ih
        |false=>simpa using ih
      rw[fm];refine a5i (a6m (λc:Nat=>nmD [c]) (λc=>if a3c c=true then none else some (nmD [c])) l (a7t (g0 _ _) (PAP.axb l _)) (dh (by omega)) λc _=>?_) ?_ ?_
      .rw[abu];have i:=K20.axc true c az [.lst (nl.map nmD)];rw[ai rfl,awj]at i;have tt:qb (c7 6) bh SRC.bw (some (nmD [c])::frs' [] (τB (.tup [.str (S t),.tup rs]) (some (.tup [.str (S l),s])) b)) [.lst (nl.map nmD)]=.ok (!a3c c) [.lst (nl.map nmD)]:=by
        unfold qb;rw[DRW.az8];exact tvc rfl i
       rw[tt,bc]
       cases a3c c<;>rfl
      .exact iy.mpr λz hz=>by
        obtain⟨c,_,e⟩:=cT.mp hz
        split at e
        .simp at e
        .injection e with e;subst e;exact cj _
      .intro o ho
       rw[aI]at ho;subst ho;exact gf λ_ _=>cj _
     rw[jr z];have hc:∀o∈([.lst (nl.map nmD)]:Hd),wg 0 o:=λo ho=>by
      rw[aI]at ho;subst ho;exact gf λ_ _=>cj _
     have e0:∀v,sZ (sA MI.wu aq) (τB (.tup [.str (S t),.tup rs]) (some (.tup [.str (S l),s])) v) [.lst (nl.map nmD)]=.ok (.rol []) [.lst (nl.map nmD)]:=λv=>zds nlo rfl bx hc (by simp)
     have st:List.set (τB (.tup [.str (S t),.tup rs]) (some (.tup [.str (S l),s])) b) 3 (some (.rol (((l.filter λc => !a3c c).map λc=>[c]).map nmD)))=τB (.tup [.str (S t),.tup rs]) (some (.tup [.str (S l),s])) (some (.rol (((l.filter λc => !a3c c).map λc=>[c]).map nmD))):=rfl;rw[st];have ch:=K20.ac2 (f:=sC (.int 1)) (g:=sA my (aa (s2 gIx (sV 2) (sI 0)) aq)) (k:=sC (.int 8)) (τ:=τB (.tup [.str (S t),.tup rs]) (some (.tup [.str (S l),s])) (some (.rol (((l.filter λc => !a3c c).map λc=>[c]).map nmD)))) (h:=[.lst (nl.map nmD)]) ckk (m9 (g0 _ _) (a78 (dh (by omega)))) ckk
     have cond:=orB (K20.adu (tof ch)) λ_=>orB (t2s (au (i:=3) rfl) (e0 _) (a4w true ((l.filter λc => !a3c c).map λc=>[c]) _)) λ_=>t2s (g0 (some (.rol (((l.filter λc => !a3c c).map λc=>[c]).map nmD))) [.lst (nl.map nmD)]) (au (i:=1) rfl) (DRW.anu (x:=l) (l:=nl) (i:=0) rfl);have val:(!decide ((1:Int)<=(l.length:Nat)/\((l.length:Nat):Int)<=8) || ((if true=true then !((l.filter λc => !a3c c).map λc=>[c]).isEmpty else ((l.filter λc => !a3c c).map λc=>[c]).isEmpty) || decide (l∈nl)))=(!ani l || decide (l∈nl)):=by
      have e1:(if true=true then !((l.filter λc => !a3c c).map λc=>[c]).isEmpty else ((l.filter λc => !a3c c).map λc=>[c]).isEmpty) = !l.all a3c:=by
       rw[ai rfl]
       congr 1
       rw[cQ,List.isEmpty_iff,eZ,List.filter_eq_nil_iff,aO];simp
      have e2:decide ((1:Int)<=(l.length:Nat)/\((l.length:Nat):Int)<=8)=decide (1<=l.length/\l.length<=8):=cF.mpr (by omega)
      rw[e1,e2];unfold ani
      cases decide (1<=l.length/\l.length<=8)<;>simp
     rw[val]at cond
     cases hn:ani l with
     |false =>
      rw[hn]at cond;exact .inl ⟨.inl rfl,_,stop cond⟩
     |true =>
      rw[hn,Bool.not_true,fM]at cond
      by_cases m:l∈nl
      .rw[aw m]at cond;exact .inl ⟨.inr ⟨l,rfl,m⟩,_,stop cond⟩
      .rw[av m]at cond;rw[ifN cond];have ap:a1j (sML aep (sV 1) (aa (s2 gIx (sV 2) (sI 0)) aq)) (τB (.tup [.str (S t),.tup rs]) (some (.tup [.str (S l),s])) (some (.rol (((l.filter λc => !a3c c).map λc=>[c]).map nmD)))) [.lst (nl.map nmD)]=.nx (τB (.tup [.str (S t),.tup rs]) (some (.tup [.str (S l),s])) (some (.rol (((l.filter λc => !a3c c).map λc=>[c]).map nmD)))) [.lst (nl.map nmD++[nmD l])] :=
        a6n (au rfl) rfl (cns (g0 _ _) nlo) (adn (i:=0) rfl (aaf (by rw[aE];omega)))
       rw[wj ap];have cn:=a6w ht (n:=6) (d:=5) ps (by omega)
       have ch2:=K20.ac2 (f:=sC (.int 1)) (g:=sA (j8 false 3 (c7 6)) (aa (s2 gIx (sV 2) (sI 1)) (aa (s2 gIx (sV 0) (sI 0)) (aa (sI 5) aq)))) (k:=sC (.int 24)) (τ:=τB (.tup [.str (S t),.tup rs]) (some (.tup [.str (S l),s])) (some (.rol (((l.filter λc => !a3c c).map λc=>[c]).map nmD)))) (h:=[.lst (nl.map nmD++[nmD l])]) ckk (a3a (mz rfl ix1) (mz rfl ix0) ckk (cn _)) ckk;have e2:decide ((1:Int)<=(ct t 5 s:Nat)/\((ct t 5 s:Nat):Int)<=24)=decide (1<=ct t 5 s/\ct t 5 s<=24):=cF.mpr (by omega)
       rw[e2]at ch2
       cases hc5:decide (1<=ct t 5 s/\ct t 5 s<=24) with
       |false =>
        rw[hc5]at ch2;exact .inl ⟨.inl rfl,_,ar (ifT (a0r (tof ch2))) (fu ckk)⟩
       |true =>
        rw[hc5]at ch2;refine .inr ⟨l,some (.rol (((l.filter λc => !a3c c).map λc=>[c]).map nmD)),rfl,rfl,m,?_⟩;rw[ifF (rm (tof ch2)),cC];rfl
  .rw[av l2]at ln;refine .inl ⟨.inl ?_,_,stop (orF (rm ist) (orT ln))⟩
   match xs,l2 with
   |[],_=>rfl
   |[_],_=>rfl
   |[_,_],h=>exact absurd rfl h
   |_::_::_::_,_=>rfl
theorem ail(l:List Nat):alu sig l=K20.a8w l:=by
 rw[ai6 (λ_ h=>h)];unfold K20.a8w a7x
 cases decide (1<=l.length/\l.length<=6)<;>cases decide l.Nodup<;>simp
theorem b2s{τ:Sd}:sA MI.wu aq τ []=.ok (.ref 0) [.lst []]:=by
 show MI.wu [] []=_;unfold MI.wu;rw[ai (dh (by simp))]
 rfl
theorem af2{d:D}(p:Deep 13 d):∃h',j4 [d] []=.ok (.bl (a3d d)) h':=by
 unfold j4;rw[dm];show ∃h',toR (vy (c7 6) bh SRC.bw [some d,none,none,none] [])=_;unfold vy;have stop:∀{c:ST} {g:SS} {τ:Sd} {h:Hd},a3d d=false->c τ h=.ok true h->∃h',toR (gj (sIf c (ju (sC (.bl false))) sNx) g τ h)=.ok (.bl (a3d d)) h':=λz c=>⟨_,by rw[z];exact ah toR (jx (ar (ifT c) (fu ckk)))⟩
 have ist:=j5 (kj (au (i:=0) (τ:=[some d,none,none,none]) (h:=[]) rfl) ckk (PAP.a6q p.pln (h:=_))) (di _)
 cases hi:PAP.isTup d with
 |false =>
  rw[hi]at ist;exact stop (by cases d<;>first|rfl|simp[PAP.isTup]at hi) (orT (a0r ist))
 |true =>
  rw[hi]at ist;obtain⟨xs,rfl⟩:∃xs,d=.tup xs:=by cases d<;>first|exact⟨_,rfl⟩|simp[PAP.isTup]at hi
  have ln:sT (s2 hNe (sA my (aa (sV 0) aq)) (sI 2)) [some (.tup xs),none,none,none] []=.ok (!decide (xs.length=2)) []:=by
   refine t2s (m9 (au rfl) (K20.len_T xs _)) ckk ?_;show R.ok (D.bl (!((xs.length:Int) == 2))) _=_
   congr 3
   rw[cQ,eV,b9];omega
  by_cases l2:xs.length=2
  .rw[aw l2]at ln
   match xs,l2 with
   |[t,rs],_ =>
    have pt:PAP.Pln t:=((p.2 _ rfl).2 t (by simp)).pln
    have pr:Deep 12 rs:=(p.2 _ rfl).2 rs (by simp)
    have sg:=j5 (kj (jq (au (i:=0) (τ:=[some (.tup [t,rs]),none,none,none]) (h:=[]) rfl) (a70 (.int 0) _ _) ix0) (ax7 (SRC.a3z _)) (aan (tg:=sig) pt _)) (di _)
    cases hg:alv sig t with
    |false =>
     rw[hg]at sg;refine stop ?_ (orF (rm ist) (orF ln (a0r sg)));unfold a3d
     split
     .rename_i h;injection h with h;injection h with h1 h2;subst h1
      have hg:alu sig _=false:=hg;rw[ail]at hg;rw[hg];rfl
     .rfl
    |true =>
     rw[hg]at sg;obtain⟨x,rfl⟩:∃x,t=.str x:=by cases t<;>first|exact⟨_,rfl⟩|simp[alv]at hg
     have hg:alu sig x.cps.toList=true:=hg;rw[ail]at hg;rw[ifN (orF (rm ist) (orF ln (rm sg)))];have is1:=j5 (kj (jq (au (i:=0) (τ:=[some (.tup [.str x,rs]),none,none,none]) (h:=[]) rfl) (a70 (.int 1) _ _) ix1) ckk (PAP.a6q pr.pln (h:=_))) (di _)
     cases hr:PAP.isTup rs with
     |false =>
      rw[hr]at is1;exact stop (by cases rs<;>first|rfl|simp[PAP.isTup]at hr) (orT (a0r is1))
     |true =>
      rw[hr]at is1;obtain⟨ws,rfl⟩:∃ws,rs=.tup ws:=by cases rs<;>first|exact⟨_,rfl⟩|simp[PAP.isTup]at hr
      have gt:sT (s2 gGt (sA my (aa (s2 gIx (sV 0) (sI 1)) aq)) (sI 6)) [some (.tup [.str x,.tup ws]),none,none,none] []=.ok (decide (6<ws.length)) []:=by
       refine t2s (m9 (mz rfl ix1) (K20.len_T ws _)) ckk ?_;show R.ok (D.bl (decide ((6:Int)<(ws.length:Nat)))) _=_
       congr 2
       exact cF.mpr (by omega)
      have val:a3d (.tup [.str x,.tup ws])=(decide (ws.length<=6) && (ws.all (a7c x.cps.toList) && decide (ws.filterMap nmO).Nodup)):=by
       show(K20.a8w x.cps.toList && _)=_;rw[hg,bM]
      by_cases w6:6<ws.length
      .rw[aw w6]at gt;exact stop (by rw[val,av (by omega)];rfl) (orF (rm is1) gt)
      .rw[av w6]at gt;rw[ifN (orF (rm is1) gt),jr b2s,a79 (a7t (mz rfl ix1) (adv _ _)),val,aw (by omega),bM]
       have tl:=hg;unfold K20.a8w at tl;simp only[af,aO,b9]at tl;have ht:∀c∈x.cps.toList,c∈sig:=tl.2.2;rw[<-a2v x];rw[zb]
       generalize x.cps.toList=tg at ht
       have lp:=a0z (g:=kN 2) (b:=m8 (c7 6) bh SRC.bw) (λx:D=>x)
        (λpre τ hh=>∃(nl:List (List Nat)) (a b:Option D),τ=τB (.tup [.str (S tg),.tup ws]) a b/\hh=[.lst (nl.map nmD)]/\pre.all (a7c tg)=true/\pre.filterMap nmL=nl/\nl.Nodup/\nl.length=pre.length)
        (λv hh=>v=.bl false/\(ws.all (a7c tg) && decide (ws.filterMap nmO).Nodup)=false)
        ws [] (τB (.tup [.str (S tg),.tup ws]) none none) [.lst []] ?_ ⟨[],none,none,rfl,rfl,rfl,rfl,.nil,rfl⟩
       .rw[da]at lp
        rcases lp with⟨τ',h',e',nl,a,b,rfl,rfl,al,fe,nd,_⟩|⟨v,h',e',rfl,pe⟩
        .refine⟨[.lst (nl.map nmD)],ar (ah (λz=>toR (thn z _)) e') ?_⟩;rw[bR]at al fe;rw[a1e,al,bM,aw ((ao0 ws).mp (by rw[fe];exact nd))]
         exact ah toR (fu ckk)
        .refine⟨h',ar (ah (λz=>toR (thn z _)) e') ?_⟩;rw[a6i,pe];rfl
       .rintro pre y post τ hh all ⟨nl,a,b,rfl,rfl,pa,pf,nd,nn⟩
        rw[bR]at all;have py:Deep 11 y:=(pr.2 _ rfl).2 y (by rw[all];simp)
        refine⟨_,_,rfl,?_⟩;have pl:pre.length<=6:=by rw[all]at w6;simp only[a9,aM]at w6;omega
        rcases ace (t:=tg) (rs:=ws) (a:=none) (b:=b) (nl:=nl) (ns:=[]) ht py (by omega) with⟨q,h',e'⟩|⟨n,b',q1,q2,q3,e'⟩
        .refine .inr ⟨_,h',e',rfl,?_⟩
         rcases q with q|⟨n,qn,qm⟩
         .rw[all,eB,bD,q];simp
         .rw[av,cO]
          intro z
          rw[<-ao0,all,eI,bJ,qn,pf]at z;exact(bC.mp z).2.2 n qm n (by simp) rfl
        .refine .inl ⟨_,_,e',nl++[n],_,b',rfl,rfl,?_,?_,?_,by simp[nn]⟩
         .rw[eB,pa,bD,q1];rfl
         .rw[eI,pf,bJ,q2];rfl
         .rw[bC];exact⟨nd,by simp,λu hu v hv z=>by rw[aI]at hv;subst hv;subst z;exact q3 hu⟩
  .rw[av l2]at ln;refine stop ?_ (orF (rm ist) (orT ln));unfold a3d
   split
   .rename_i h
    injection h with h
    subst h;exact absurd rfl l2
   .rfl
theorem af3{d:D}(p:Deep 13 d):Pu j4 1 [d] (.bl (a3d d)):=by
 obtain⟨h',e⟩:=af2 p;exact K20.a2a rfl (K20.ar1 p.pln.clo) e
end K16
namespace K16
open L2 MI AT HND EVX
open SHD
open DRW (wt wts)
open K20 (a4a uy a2b isInt a3b isStr Deep)
def jj:Nat->SF
 |0=>λ_ _=>.no
 |n+1=>jw (a2i jf (jj n)) 2
noncomputable def inS:Sh->List Sh
 |.one _=>[]
 |.row ps=>ps
 |.eit ps=>ps
 |.many p=>[p]
 |.tim p _ _=>[p]
theorem ao1(s:Sh):inT (sd s)=sds (inS s):=by
 cases s with
 |one l=>rw[sd,inS,sds,a0c,ai (by decide +kernel)]
 |row ps=>rw[sd,inS,a0c,aL (by decide +kernel),ai (by decide +kernel)]
 |eit ps=>rw[sd,inS,a0c,aL (by decide +kernel),ai (by decide +kernel)]
 |many p=>rw[sd,inS,sds,sds,a0c,aL (by decide +kernel),aL (by decide +kernel)]
 |tim p lo hi=>rw[sd,inS,sds,sds,a0c,aL (by decide +kernel),aL (by decide +kernel)]
theorem azg{tg:List Nat}{d:Nat}{s:Sh}(k:a2c tg (d+1) s):(inS s).length<=6/\∀p∈inS s,a2c tg d p:=by
 cases s with
 |one l=>exact⟨by simp[inS],by simp[inS]⟩
 |row ps=>exact⟨k.1,k.2⟩
 |eit ps=>exact⟨k.2.1,k.2.2⟩
 |many p=>exact⟨by simp[inS],λq hq=>by rw[aI.mp hq];exact k⟩
 |tim p lo hi=>exact⟨by simp[inS],λq hq=>by rw[aI.mp hq];exact k.2.2⟩
theorem a6x{tg:List Nat}:∀{n d:Nat} {s:Sh},skB tg d (sd s)=true->a2c tg d s->Deep (2*d) (sd s)->d<=n->Pu (jj n) 1 [sd s] (bj (wt s))
 |n,0,s,_,k,_,_=>k.elim
 |0,d+1,s,_,_,_,h=>absurd h (by omega)
 |n+1,d+1,s,sk,k,dp,h=>by
  rw[skB,af,af]at sk;obtain⟨⟨hf,_⟩,al⟩:=sk;have k2:Deep (2*d+2) (sd s):=dp;have dn:∀{a b:Nat} {u:D},Deep (a+b) u->Deep a u:=λ{a b u} q=>by
   induction b with
   |zero=>exact q
   |succ b ihb=>exact ihb q.down
  have k3:Deep 2 (sd s):=dn (a:=2) (b:=2*d) (by rwa[eH 2])
  have inn:=a6u k3 hf;rw[ao1]at inn al;have ok:=azg k;have ih:∀p∈inS s,Pu (jj n) 1 [sd p] (bj (wt p)):=λp hp=>by
   have m:sd p∈sds (inS s):=by rw[a0f];exact dY hp
   exact a6x (aO.mp al _ m) (ok.2 p hp) (a4u (n:=2*d) k2 hf (by rw[ao1];exact m)) (by omega)
  refine Pu.of rfl (by simp[a2d]) (r:=.ok (bj (wt s)) []) ?_ (je (bz _) (by simp)) (bz _)
  show jw (a2i jf (jj n)) 2 [sd s] []=_;rw[dm];show toR (a2i jf (jj n) [some (sd s),none] [])=_;unfold a2i;have z:sA a76 (aa (sZ (qi (sIt (sA (j8 false 1 jf) (aa (sV 0) aq))) t1 (a2z jf (jj n)) [])) aq) [some (sd s),none] []=.ok (bj ((inS s).map wt).sum) []:=by
   refine m9 (a:=.rol (((inS s).map wt).map bj)) ?_ (a92 _ _);refine a5i ?_ (gf λ_ _=>bz _) (by simp)
   rw[cK];refine zy sd (λp=>bj (wt p)) (inS s) (a7t (m9 (au rfl) (inn _)) (by rw[a0f];rfl)) (dh (by have:=ok.1;omega)) λp hp=>?_
   rw[yo];exact m9 (au rfl) (ih p hp _)
  have ws:∀l:List Sh,(l.map wt).sum=wts l:=λl=>by
   induction l with
   |nil=>rw[wts];rfl
   |cons p l ih=>rw[b6,dS,wts,ih]
  have hd:∀{x:Str} {r:List D} (y:Str) (v:Option D),sT (s2 hEq (s2 gIx (sV 0) (sI 0)) (sC (.str y))) [some (.tup (.str x::r)),v] []=.ok (x == y) []:=λy v=>a7w
  cases s with
  |one l =>
   rw[sd,wt];exact ah toR (jx (ar (ifT (hd _ _)) (fu ckk)))
  |row ps =>
   rw[sd]at z ⊢;rw[wt];refine eti (hd _ _) ?_;refine etr (jr z) ?_;refine eti (hd _ _) ?_;rw[ws];exact ah toR (fu (au rfl))
  |eit ps =>
   rw[sd]at z ⊢;rw[wt];refine eti (hd _ _) ?_;refine etr (jr z) ?_;refine eti (hd _ _) ?_;rw[ws];exact ah toR (fu (au rfl))
  |many p =>
   rw[sd]at z ⊢;rw[wt];refine eti (hd _ _) ?_;refine etr (jr z) ?_;refine eti (hd _ _) ?_;exact ah toR (fu (au (d:=bj (wt p)) (by simp[inS])))
  |tim p lo hi =>
   have h4:=k.2.1;rw[sd]at z ⊢;rw[wt];refine eti (hd _ _) ?_;refine etr (jr z) ?_;refine ar (ah toR (jx (ar (ifT (hd _ _)) ?_))) rfl;have m:yw (bj hi) (bj (wt p)) []=.ok (bj (hi*wt p)) []:=a2o.trans ((ai (.inl ⟨by omega,by omega⟩)).trans (by rw[<-Int.natCast_mul]))
   exact fu (jq (mz rfl ix3) (au (d:=bj (wt p)) (by simp[inS])) m)
abbrev rdD(p:Str×Sh):D:=.tup [.str p.1,sd p.2]
abbrev bdD(tg:List Nat)(ps:List (Str×Sh)):D:=.tup [.str (S tg),.tup (ps.map rdD)]
structure Bok (tg:List Nat) (ps:List (Str×Sh)):Prop where
 few:ps.length<=6
 sh:∀p∈ps,a2c tg 5 p.2
 sk:∀p∈ps,skB tg 5 (sd p.2)=true
noncomputable def wB(ps:List (Str×Sh)):Nat:=(ps.map λp=>wt p.2).sum
theorem ae3{tg:List Nat}:∀rs:List D,rs.all (a7c tg)=true->∃ps:List (Str×Sh),rs=ps.map rdD/\∀p∈ps,a2c tg 5 p.2/\skB tg 5 (sd p.2)=true
 |[],_=>⟨[],rfl,by simp⟩
 |d::rs,h=>by
  rw[bD,af]at h;obtain⟨x,s,rfl⟩:=ady h.1;obtain⟨ps,rfl,k⟩:=ae3 rs h.2;have r:(aj2 s && ((po 5 s).filterMap onS).all (a7x tg))=true:=by
   have:(ai0 (.str x) && (aj2 s && ((po 5 s).filterMap onS).all (a7x tg)))=true:=h.1
   rw[af]at this;exact this.2
  have sk:skB tg 5 s=true:=by
   rw[aij,b9,am0]at r
   cases q:skB tg 5 s with
   |true=>rfl
   |false=>rw[q]at r;simp at r
  obtain⟨s,rfl,ks⟩:=awc 5 s sk;exact⟨(x,s)::ps,rfl,λp hp=>by rcases aV.mp hp with rfl|hp;exact⟨ks,sk⟩;exact k p hp⟩
theorem a7z{d:D}(h:a3d d=true):∃tg ps,d=bdD tg ps/\Bok tg ps:=by
 unfold a3d at h
 split at h
 .rename_i t rs;simp only[af,b9]at h;obtain⟨_,l,al,_⟩:=h;obtain⟨ps,rfl,k⟩:=ae3 rs al;rw[aE]at l;exact⟨t.cps.toList,ps,by (show _=D.tup [.str (S t.cps.toList),_];rw[a2v]),l,λp hp=>(k p hp).1,λp hp=>(k p hp).2⟩
 .cases h
def dz:SF:=jw (ou o8 (jj 5)) 3
theorem ar0{d:D}(p:Deep 13 d)(h:a3d d=false):dz [d] []=.ex "NoBook" []:=by
 unfold dz;rw[dm];show toR (ou o8 (jj 5) [some d,none,none] [])=_;unfold ou;have e:=adz p;rw[h]at e;exact ah toR (af0 (ar (ifT (a0r (j5 (m9 (au rfl) (e _)) (di _)))) (abz (cns ckk nlo) (by simp))))
theorem am1{tg:List Nat}{ps:List (Str×Sh)}(p:Deep 13 (bdD tg ps))(h:a3d (bdD tg ps)=true)(k:Bok tg ps):dz [bdD tg ps] []=if 10<wB ps then .ex "TooHeavy" [] else .ok (bdD tg ps) []:=by
 unfold dz;rw[dm];show toR (ou o8 (jj 5) [some (bdD tg ps),none,none] [])=_;unfold ou;have e:=adz p;rw[h]at e;refine eti (rm (j5 (m9 (au rfl) (e _)) (di _))) ?_;refine etr (wj (alj (au rfl) rfl)) ?_;have z:sA a76 (aa (sZ (qi (sIt (sV 2)) (tN 2) (ph o8 (jj 5)) [])) aq) [some (bdD tg ps),some (.str (S tg)),some (.tup (ps.map rdD))] []=.ok (bj (wB ps)) []:=by
  refine m9 (a:=.rol ((ps.map λp=>wt p.2).map bj)) ?_ (a92 _ _);refine a5i ?_ (gf λ_ _=>bz _) (by simp)
  rw[cK];refine zy rdD (λp=>bj (wt p.2)) ps (a7t (au rfl) (adv _ _)) (dh (by have:=k.few;omega)) λq hq=>?_
  have dq:Deep 10 (sd q.2):=by
   have r:=(((p.2 _ rfl).2 (.tup (ps.map rdD)) (by simp)).2 _ rfl).2 (rdD q) (dY hq)
   exact(r.2 _ rfl).2 (sd q.2) (by simp)
  have:=a6x (n:=5) (k.sk q hq) (k.sh q hq) dq (by omega)
  show ph o8 (jj 5) [some (.str q.1),some (sd q.2)] []=_;exact m9 (au rfl) (this _)
 have gt:sT (s2 gGt (sA a76 (aa (sZ (qi (sIt (sV 2)) (tN 2) (ph o8 (jj 5)) [])) aq)) (sI 10)) [some (bdD tg ps),some (.str (S tg)),some (.tup (ps.map rdD))] []=.ok (decide (10<wB ps)) []:=by
  refine t2s z ckk ?_;show R.ok (D.bl (decide ((10:Int)<(wB ps:Nat)))) _=_
  congr 2
  exact cF.mpr (by omega)
 by_cases w:10<wB ps
 .rw[aw w]at gt;rw[ai w];exact ah toR (af0 (ar (ifT gt) (abz (cns ckk nlo) (by simp))))
 .rw[av w]at gt;rw[aL w];refine etr (ifN gt) ?_;exact ah toR (fu (au rfl))
theorem a95{a b c:D}{h:Hd}:MI.jl [a,b,c] h=.ok (.tup [a,b,c]) h:=by unfold MI.jl;rw[ai (dh (by simp))]
theorem ae4:∀(n:Nat) (d:D),pur n d=true->eqD d d=true:=by
 intro n
 induction n with
 |zero=>intro d h;cases d<;>first|(simp[eqD];done)|(cases h;done)
 |succ n ih =>
  intro d h
  cases d with
  |tup xs =>
   simp only[pur,aO]at h;simp only[eqD]
   induction xs with
   |nil=>rfl
   |cons x xs ih2 =>
    simp only[aa0,af];exact⟨ih x (h x (aX ..)),ih2 λy hy=>h y (aP _ hy)⟩
  |_=>first|(simp[eqD];done)|(cases h;done)
end K16
namespace K16
open L2 MI AT HND EVX
open K20 (a4a uy a2b isInt a3b isStr Deep)
mutual
def thB(b:Bool):D->Bool
 |.non=>true
 |.bl _=>true
 |.int i=>decide (-100<i) && decide (i<100)
 |.str x=>decide (x.cps.toList.length<=300) && x.cps.toList.all (λc=>decide (c<127))
 |.tup xs=>decide (xs.length<=100) && thL b xs
 |.rol xs => !b && (decide (xs.length<=100) && thL b xs)
 |.rod [] []=>b
 |_=>false
def thL(b:Bool):List D->Bool
 |[]=>true
 |x::xs=>thB b x && thL b xs
end
mutual
def sz:D->Nat
 |.str x=>10*x.cps.toList.length+2
 |.tup xs=>szL xs+3
 |.rol xs=>szL xs+3
 |_=>5
def szL:List D->Nat
 |[]=>0
 |x::xs=>sz x+2+szL xs
end
mutual
def dp:D->Nat
 |.tup xs=>dpL xs+1
 |.rol xs=>dpL xs+1
 |.rod _ _=>1
 |_=>0
def dpL:List D->Nat
 |[]=>0
 |x::xs=>max (dp x) (dpL xs)
end
theorem xr{b:Bool}:∀{xs:List D},thL b xs=true↔∀x∈xs,thB b x=true
 |[]=>by simp[thL]
 |x::xs=>by rw[thL,af,xr];simp
theorem a0w{b:Bool}:∀(n:Nat) (d:D),dp d<=n->thB b d=true->PAP.Pln d:=by
 intro n
 induction n with
 |zero =>
  intro d hd h
  cases d<;>first|trivial|(simp[thB]at h;done)|skip
  all_goals first|(simp only[thB,af,b9]at h;exact bH h.1 (by omega))|(exfalso;simp only[dp]at hd;omega)
 |succ n ih =>
  have inn:∀xs:List D,dpL xs<=n->thL b xs=true->clos 0 xs:=λxs=>by
   induction xs with
   |nil=>exact λ_ _=>bx
   |cons x xs ihx =>
    intro hd h
    rw[dpL]at hd;rw[thL,af]at h;exact ak (ih x (by omega) h.1).clo (ihx (by omega) h.2)
  intro d hd h
  cases d<;>first|trivial|(simp[thB]at h;done)|skip
  .rename_i x;simp only[thB,af,b9]at h;exact bH h.1 (by omega)
  .rename_i xs;rw[dp]at hd;simp only[thB,af]at h;exact inn xs (by omega) h.2
  .rename_i xs;rw[dp]at hd;simp only[thB,af]at h;exact inn xs (by omega) h.2.2
  .rename_i ks xs
   cases ks with
   |nil =>
    cases xs with
    |nil=>exact(bx:clos 0 [])
    |cons _ _=>simp[thB]at h
   |cons _ _=>simp[thB]at h
theorem acf{b:Bool}:∀(n:Nat) {d:D},thB b d=true->Deep n d
 |0,d,h=>a0w _ d (a8 _) h
 |n+1,d,h=>⟨a0w _ d (a8 _) h,λws e=>by
   subst e;simp only[thB,af,b9]at h;exact⟨by omega,λx hx=>acf n (xr.mp h.2 x hx)⟩⟩
structure Rp (b:Bool) (d:D) (q:PyData):Prop where
 py:toPy d=some q
 sh:q.showable=true
 dp:q.depth<=K16.dp d
 ln:q.shown.length<=sz d
 nl:b=true->noL d=true
 nd:b=false->q.hasDict=false
structure RpL (b:Bool) (xs:List D) (qs:List PyData):Prop where
 py:abm xs=some qs
 sh:PyData.showableAll qs=true
 dp:PyData.depthAll qs<=dpL xs
 ln:piled (PyData.shownAll qs)<=szL xs
 nl:b=true->ari xs=true
 nd:b=false->PyData.hasDictAll qs=false
theorem aim(i:Int)(h : -100<i)(h':i<100):PyData.showable (.int i)=true/\(PyData.shown (.int i)).length<=5:=by
 have:∀n:Nat,n<100->(PyData.showable (.int (n:Int))=true/\(PyData.shown (.int (n:Int))).length<=5)/\(PyData.showable (.int (-(n:Int)))=true/\(PyData.shown (.int (-(n:Int)))).length<=5):=by decide +kernel
 rcases Int.lt_or_le i 0 with l|l
 .have:=(this (-i).toNat (by omega)).2
  rwa[show -(((-i).toNat:Nat):Int)=i by omega]at this
 .have:=(this i.toNat (by omega)).1
  rwa[show((i.toNat:Nat):Int)=i by omega]at this
mutual
theorem b0l{b:Bool}:∀d:D,thB b d=true->∃q,Rp b d q
 |.non,_=>⟨.none,rfl,rfl,a8 _,by decide +kernel,λ_=>rfl,λ_=>rfl⟩
 |.bl c,_=>⟨.bool c,rfl,rfl,a8 _,by cases c<;>decide +kernel,λ_=>rfl,λ_=>rfl⟩
 |.int i,h=>by
  simp only[thB,af,b9]at h;have:=aim i h.1 h.2;exact⟨.int i,rfl,this.1,a8 _,this.2,λ_=>rfl,λ_=>rfl⟩
 |.str x,h=>by
  simp only[thB,af,b9,aO]at h;refine⟨.str x,rfl,rfl,a8 _,?_,λ_=>rfl,λ_=>rfl⟩;have:=StrLaws.reprText_len x (by intro c hc;have:=h.2 c hc;omega)
  have e:x.length=x.cps.toList.length:=by show x.cps.size=_;rw[dX]
  show(reprText x).length<=10*x.cps.toList.length+2;omega
 |.tup xs,h=>by
  simp only[thB,af,b9]at h;obtain⟨qs,r⟩:=azh xs h.2;refine⟨.tuple qs,by simp only[toPy,r.py,fZ],r.sh,?_,?_,λz=>r.nl z,λz=>r.nd z⟩
  .show PyData.depthAll qs+1<=dpL xs+1;have:=r.dp;omega
  .have h2:=aai (PyData.shownAll qs);have:=r.ln;show(tupleText (PyData.shownAll qs)).length<=szL xs+3;omega
 |.rol xs,h=>by
  simp only[thB,af,b9]at h;obtain⟨qs,r⟩:=azh xs h.2.2;have bf:b=false:=by simpa using h.1
  refine⟨.list qs,by simp only[toPy,r.py,fZ],r.sh,?_,?_,λz=>(by rw[bf]at z;cases z),λz=>r.nd z⟩
  .show PyData.depthAll qs+1<=dpL xs+1;have:=r.dp;omega
  .have h2:=abx (PyData.shownAll qs);have:=r.ln;show(listText (PyData.shownAll qs)).length<=szL xs+3;omega
 |.rod [] [],h=>⟨.dict [],rfl,rfl,a8 _,by decide +kernel,λ_=>rfl,λz=>by rw[thB]at h;rw[h]at z;cases z⟩
 |.rod (_::_) _,h=>by simp[thB]at h
 |.rod [] (_::_),h=>by simp[thB]at h
 |.ty _,h=>by simp[thB]at h
 |.ref _,h=>by simp[thB]at h
 |.scr _,h=>by simp[thB]at h
 |.rdT _ _,h=>by simp[thB]at h
 |.exc _,h=>by simp[thB]at h
 |.ins _ _ _,h=>by simp[thB]at h
theorem azh{b:Bool}:∀xs:List D,thL b xs=true->∃qs,RpL b xs qs
 |[],_=>⟨[],rfl,rfl,a8 _,a8 _,λ_=>rfl,λ_=>rfl⟩
 |x::xs,h=>by
  rw[thL,af]at h;obtain⟨q,r⟩:=b0l x h.1;obtain⟨qs,rs⟩:=azh xs h.2;refine⟨q::qs,by simp only[abm,r.py,rs.py],?_,?_,?_,λz=>?_,λz=>?_⟩
  .show(q.showable && PyData.showableAll qs)=true;rw[r.sh,rs.sh];rfl
  .have:=r.dp;have:=rs.dp
   show max q.depth (PyData.depthAll qs)<=max (dp x) (dpL xs);omega
  .have e:piled (PyData.shownAll (q::qs))=q.shown.length+2+piled (PyData.shownAll qs):=by
    simp[PyData.shownAll,piled]
   have:=r.ln;have:=rs.ln
   rw[e,szL];omega
  .show(noL x && ari xs)=true;rw[r.nl z,rs.nl z];rfl
  .show(q.hasDict || PyData.hasDictAll qs)=false
   rw[r.nd z,rs.nd z];rfl
end
structure TT (b:Bool) (z p:Nat) (d:D):Prop where
 t:thB b d=true
 s:sz d<=z
 q:dp d<=p
structure TL (b:Bool) (z p n:Nat) (xs:List D):Prop where
 t:thL b xs=true
 s:szL xs<=z
 q:dpL xs<=p
 l:xs.length<=n
section
variable{b:Bool}{z z' p p' n n':Nat}{d:D}{xs ys:List D}
theorem TT.up(h:TT b z p d)(hz:z<=z')(hp:p<=p'):TT b z' p' d:=⟨h.t,bH h.s hz,bH h.q hp⟩
theorem TL.up(h:TL b z p n xs)(hz:z<=z')(hp:p<=p')(hn:n<=n'):TL b z' p' n' xs:=⟨h.t,bH h.s hz,bH h.q hp,bH h.l hn⟩
theorem TL.nil:TL b 0 0 0 []:=⟨rfl,a8 _,a8 _,a8 _⟩
theorem TL.cons(h:TT b z p d)(k:TL b z' p' n xs):TL b (z+2+z') (max p p') (n+1) (d::xs) :=
 ⟨by rw[thL,h.t,k.t];rfl,by have:=h.s;have:=k.s;rw[szL];omega,by have:=h.q;have:=k.q;rw[dpL];omega,by have:=k.l;rw[aM];omega⟩
theorem TL.tup(h:TL b z p n xs)(hn:n<=100):TT b (z+3) (p+1) (.tup xs) :=
 ⟨by rw[thB,h.t,aw (bH h.l hn)];rfl,by have:=h.s;rw[sz];omega,by have:=h.q;rw[dp];omega⟩
theorem TL.rol(h:TL false z p n xs)(hn:n<=100):TT false (z+3) (p+1) (.rol xs) :=
 ⟨by rw[thB,h.t,aw (bH h.l hn)];rfl,by have:=h.s;rw[sz];omega,by have:=h.q;rw[dp];omega⟩
theorem TL.of:∀{xs:List D},(∀x∈xs,TT b z p x)->TL b (xs.length*(z+2)) p xs.length xs
 |[],_=>⟨rfl,bE _,bE _,a8 _⟩
 |x::xs,h=>by
  have a:=h x (by simp)
  have b:=TL.of (xs:=xs) λy hy=>h y (by simp[hy])
  refine(TL.cons a b).up ?_ (by omega) (by simp)
  rw[aM,dI];omega
theorem TL.at(h:TL b z p n xs)(hx:d∈xs):TT b z p d:=by
 induction xs generalizing z n with
 |nil=>simp at hx
 |cons x xs ih =>
  obtain⟨t,s,q,l⟩:=h;rw[thL,af]at t;rw[szL]at s;rw[dpL]at q
  rcases aV.mp hx with rfl|hx
  .exact⟨t.1,by omega,by omega⟩
  .exact ih (z:=z) (n:=n) ⟨t.2,by omega,by omega,by rw[aM]at l;omega⟩ hx
theorem TT.str{l:List Nat}(hl:l.length<=300)(hc:∀c∈l,c<127):TT b (10*l.length+2) 0 (.str (S l)) :=
 ⟨by rw[thB,zb,aw hl,bM,aO];exact λc h=>aw (hc c h),by rw[sz,zb];exact a8 _,a8 _⟩
theorem TT.nat(h:n<100):TT b 5 0 (bj n):=⟨by simp only[thB,af,b9];omega,a8 _,a8 _⟩
theorem TT.clo(h:TT b z p d):MI.clo 0 d:=(a0w _ d (a8 _) h.t).clo
end
end K16
namespace K16
open L2 MI AT HND EVX
open K20 (Deep isInt a3b isStr)
open SRC (Src)
open DRW (dw)
def Odd(z p:Nat)(d:D):Prop:=∃b,TT b z p d
end K16
namespace K16
open L2 MI AT HND EVX
open K20 (Deep isInt a3b isStr)
open SRC (Src)
open DRW (dw)
open SHD
def SB:Nat->Nat
 |0=>0
 |d+1=>6*SB d+110
theorem lit{b:Bool}{x:Str}(h:(decide (x.cps.toList.length<=300) && x.cps.toList.all (λc=>decide (c<127)))=true):TT b (10*x.cps.toList.length+2) 0 (.str x):=⟨h,a8 _,a8 _⟩
theorem am2{b:Bool}:TT b 32 0 (.str "one"):=(lit (by decide +kernel)).up (by decide +kernel) (a8 _)
theorem azi{b:Bool}:TT b 32 0 (.str "row"):=(lit (by decide +kernel)).up (by decide +kernel) (a8 _)
theorem azj{b:Bool}:TT b 62 0 (.str "either"):=(lit (by decide +kernel)).up (by decide +kernel) (a8 _)
theorem awk{b:Bool}:TT b 42 0 (.str "many"):=(lit (by decide +kernel)).up (by decide +kernel) (a8 _)
theorem azk{b:Bool}:TT b 52 0 (.str "times"):=(lit (by decide +kernel)).up (by decide +kernel) (a8 _)
section
variable{b:Bool}{z z' p p':Nat}{x y:D}
theorem TT.two(h:TT b z p x)(k:TT b z' p' y):TT b (z+z'+7) (max p p'+1) (.tup [x,y]):=((TL.cons h (TL.cons k .nil)).tup (by omega)).up (by omega) (by omega)
theorem TT.one(h:TT b z p x):TT b (z+5) (p+1) (.tup [x]):=((TL.cons h .nil).tup (by omega)).up (by omega) (by omega)
end
theorem acg{b:Bool}{tg:List Nat}(ht:∀c∈tg,c<127):∀{d:Nat} {s:Sh},a2c tg d s->TT b (SB d) (2*d) (sd s)
 |0,_,k=>k.elim
 |d+1,s,k=>by
  have many:∀ps:List Sh,ps.length<=6->(∀p∈ps,a2c tg d p)->TT b (6*(SB d+2)+3) (2*d+1) (.tup (sds ps)):=λps l kp=>by
   have:=TL.of (b:=b) (z:=SB d) (p:=2*d) (xs:=sds ps) λx hx=>by
    rw[a0f]at hx;obtain⟨q,hq,rfl⟩:=bF.mp hx;exact acg ht (kp q hq)
   rw[acd]at this;refine(this.tup (by omega)).up ?_ (a8 _)
   have:=bZ (SB d+2) l
   omega
  match s,k with
  |.one l,k =>
   rw[sd];exact(am2.two (TT.str (b:=b) (l:=l) (by have:=k.2.1;omega) λc hc=>ht c (k.2.2 c hc))).up (by have:=k.2.1;rw[SB];omega) (by omega)
  |.row ps,k =>
   rw[sd];exact(azi.two (many ps k.1 k.2)).up (by rw[SB];omega) (by omega)
  |.eit ps,k =>
   rw[sd];exact(azj.two (many ps k.2.1 k.2.2)).up (by rw[SB];omega) (by omega)
  |.many q,k =>
   rw[sd];exact(awk.two (acg ht (d:=d) (s:=q) k)).up (by rw[SB];omega) (by omega)
  |.tim q lo hi,k =>
   have h1:=k.1;have h2:=k.2.1;rw[sd];exact((TL.cons azk (TL.cons (acg ht (d:=d) k.2.2) (TL.cons (TT.nat (n:=lo) (by omega)) (TL.cons (TT.nat (n:=hi) (by omega)) .nil)))).tup (by omega)).up (by rw[SB];omega) (by omega)
end K16
namespace K16
open L2 MI AT HND EVX
open K20 (Deep isInt a3b isStr)
open SRC (Src)
open DRW (dw)
open SHD
theorem a8v:sig.length=95:=by decide +kernel
theorem a6t:∀c∈sig,c<127:=by decide +kernel
end K16
namespace K16
open L2 MI AT HND EVX
open K20 (Deep isInt a3b isStr)
open SRC (Src)
open DRW (dw)
open SHD
end K16
namespace K16
open L2 MI AT HND EVX
open K20 (Deep isInt a3b isStr)
open SRC (Src)
open DRW (dw)
open SHD
theorem all_nil{Q:D->Prop}:∀x∈([]:List D),Q x:=λx h=>by cases h
theorem all_cons{Q:D->Prop}{a:D}{l:List D}(h:Q a)(k:∀x∈l,Q x):∀x∈a::l,Q x:=λx hx=>by
 rcases aV.mp hx with rfl|hx
 .exact h
 .exact k x hx
theorem ain:∀c∈DRW.az,c<127:=by decide +kernel
abbrev a2m(ns:List (List Nat)):D:=.rol (ns.map DRW.nmD)
end K16
namespace K16
open L2 MI AT HND EVX
open K20 (Deep isInt a3b isStr)
open SRC (Src)
open DRW (dw)
open SHD
end K16
namespace K16
open L2 MI AT HND EVX
open K20 (Deep isInt a3b isStr)
open SRC (Src)
open DRW (dw)
open SHD
open DRW (Rule rlD Bk)
theorem ach{i:Nat}{f:SE}{τ:Sd}{h h1:Hd}{d:D}(e:f τ h=.ok d h1):jm i f τ h=.nx (τ.set i (some d)) h1:=by unfold jm;rw[e];rfl
theorem azl{b:Bool}{tg:List Nat}{p:Nat}{rs:List Rule}(ht:∀c∈tg,c<127)(k:Bk tg p rs){r:Rule}(hr:r∈rs):TT b 171139 11 (rlD r):=by
 have n:=k.nm r hr;have a:TT b 82 0 (DRW.nmD r.1):=(TT.str (l:=r.1) (by have:=n.hi;omega) λc hc=>ain c (n.az c hc)).up (by have:=n.hi;omega) (a8 _)
 exact(a.two (acg ht (k.sh r hr))).up (by decide) (by decide)
theorem awl{b:Bool}{tg:List Nat}{p:Nat}{rs:List Rule}(ht:∀c∈tg,c<127)(k:Bk tg p rs):TL b 1026846 11 6 (rs.map rlD):=by
 have w:=TL.of (b:=b) (z:=171139) (p:=11) (xs:=rs.map rlD) λx hx=>by
  obtain⟨r,hr,rfl⟩:=bF.mp hx;exact azl ht k hr
 rw[aE]at w;have:=k.few;exact w.up (by have:=bZ 171141 this;omega) (a8 _) this
end K16
namespace K19
open L2 MI AT HND EVX
open SHD (Sh sd sds a2c a0f a2d)
open DRW (wt wts)
open K20 (a4a uy a2b isInt a3b isStr Deep)
open K16 (a3d skB rdD bdD Bok wB a7z ix0 ix1 adv az9 aza orB)
theorem am3{a:D}(pa:PAP.Pln a):Pu K16.iu 1 [.tup [a]] (.bl (isInt a)):=by
 have ca:MI.clo 0 (.tup [a]):=gh (ak pa.clo bx);refine K20.a2a rfl (K20.ar1 ca) (h':=[]) ?_;unfold K16.iu;rw[dm];show toR (K16.a02 [some (.tup [a]),none] [])=_;unfold K16.a02;refine eti (rm (j5 (kj (au rfl) ckk (PAP.a6q ca)) (di _))) ?_;refine etr (a79 (a7t (au rfl) (adv _ _))) ?_;have cond:sOr (yh (xu (sA kh (aa (sV 1) (aa (sC (.ty "int")) aq))))) (xu (sA kh (aa (sV 1) (aa (sC (.ty "bool")) aq)))) [some (.tup [a]),some a] []=.ok (!isInt a) []:=by
  have:=orB (a := !(isInt a || a3b a)) (K20.adu (az9 pa (i:=1) (τ:=[some (.tup [a]),some a]) (h:=[]) rfl)) (λ_=>aza pa (i:=1) rfl)
  rw[this]
  congr 1
  cases a<;>rfl
 cases hx:isInt a with
 |false =>
  rw[hx]at cond;have e:forL (λ_=>True) (kN 1) K16.km [a] [some (.tup [a]),none] []=.rt (.bl false) []:=by
   have lp:=a0z (g:=kN 1) (b:=K16.km) (λx:D=>x) (λpre τ hh=>pre=[]/\τ=[some (.tup [a]),none]/\hh=[]) (λv hh=>v=.bl false/\hh=[]) [a] [] [some (.tup [a]),none] [] (by
    rintro pre x post τ hh all ⟨rfl,rfl,rfl⟩
    rw[bR]at all
    injection all with e1 e2
    subst e1;refine⟨_,_,rfl,.inr ⟨_,_,?_,rfl,rfl⟩⟩;unfold K16.km;exact ar (ifT cond) (fu ckk)) ⟨rfl,rfl,rfl⟩
   rw[da]at lp
   rcases lp with⟨_,_,_,h,_⟩|⟨v,h',e',rfl,rfl⟩
   .cases h
   .exact e'
  refine ar (ah (λz=>toR (thn z _)) e) ?_;rfl
 |true =>
  rw[hx]at cond;have lp:=a0z (g:=kN 1) (b:=K16.km) (λx:D=>x) (λpre τ hh=>(∃v,τ=[some (.tup [a]),v])/\hh=[]) (λv hh=>False) [a] [] [some (.tup [a]),none] [] (by
    rintro pre x post τ hh all ⟨⟨v,rfl⟩,rfl⟩
    rw[bR]at all;have:x∈[a]:=by rw[all];simp
    rw[aI]at this;subst this;refine⟨_,_,rfl,.inl ⟨[some (.tup [x]),some x],[],?_,⟨_,rfl⟩,rfl⟩⟩;unfold K16.km;exact ar (ifF cond) rfl) ⟨⟨_,rfl⟩,rfl⟩
  rw[da]at lp
  rcases lp with⟨τ',h',e',⟨v,rfl⟩,rfl⟩|⟨v,h',e',z⟩
  .refine ar (ah (λz=>toR (thn z _)) e') ?_;exact ah toR (fu ckk)
  .exact z.elim
def wtD(d:D):Nat:=match j8 false 1 (K16.jj 5) [d] [] with|.ok (.int i) _=>i.toNat|_=>0
def wR1(r:D):Nat:=match r with|.tup [_,s]=>wtD s|_=>0
def wR(rs:List D):Nat:=(rs.map wR1).sum
theorem ae5(a b:List D):wR (a++b)=wR a+wR b:=by unfold wR;rw[cC,List.sum_append]
theorem azm{tg:List Nat}{s:Sh}(sk:skB tg 5 (sd s)=true)(k:a2c tg 5 s)(d:Deep 10 (sd s)):wtD (sd s)=wt s:=by
 have:=K16.a6x (n:=5) sk k d (by omega)
 unfold wtD;rw[this []];exact dP _
theorem aio{tg:List Nat}{ps:List (Str×Sh)}(p:Deep 13 (bdD tg ps)){q:Str×Sh}(hq:q∈ps):Deep 10 (sd q.2):=by
 have r:=(((p.2 _ rfl).2 (.tup (ps.map rdD)) (by simp)).2 _ rfl).2 (rdD q) (dY hq)
 exact(r.2 _ rfl).2 (sd q.2) (by simp)
theorem awm{tg:List Nat}{ps:List (Str×Sh)}(k:Bok tg ps)(p:Deep 13 (bdD tg ps)):wR (ps.map rdD)=wB ps:=by
 have go:∀l:List (Str×Sh),(∀q∈l,q∈ps)->wR (l.map rdD)=wB l:=λl=>by
  induction l with
  |nil=>exact λ_=>rfl
  |cons q l ih =>
   intro h
   have e:=ih λx hx=>h x (by simp[hx])
   have hq:=h q (by simp)
   have w:=azm (k.sk q hq) (k.sh q hq) (aio p hq);show wR1 (rdD q)+wR (l.map rdD)=wt q.2+wB l;rw[e];show wtD (sd q.2)+_=_;rw[w]
 exact go ps λq h=>h
def lk(t:D)(rs:List D):Option Str:=if a3d (.tup [t,.tup rs])=true then (if 10<wR rs then some "TooHeavy" else none) else some "NoBook"
theorem azn{t:D}{rs:List D}(p:Deep 13 (.tup [t,.tup rs])):K16.dz [.tup [t,.tup rs]] []=match lk t rs with|none=>.ok (.tup [t,.tup rs]) []|some c=>.ex c []:=by
 unfold lk
 cases h:a3d (.tup [t,.tup rs]) with
 |false=>rw[aL (by decide)];exact K16.ar0 p h
 |true =>
  rw[ai rfl];obtain⟨tg,ps,e,k⟩:=a7z h
  injection e with e
  injection e with e1 e2
  injection e2 with e2 e3
  injection e2 with e2
  subst e1;subst e2;have run:=K16.am1 p h k;rw[run,awm k p]
  by_cases w:10<wB ps
  .rw[ai w,ai (by omega)]
  .rw[aL w,aL (by omega)]
theorem ar5{t:D}{rs:List D}(p:Deep 13 (.tup [t,.tup rs]))(h:Hd):u5 1 K16.dz [.tup [t,.tup rs]] h=match lk t rs with|none=>.ok (.tup [t,.tup rs]) h|some c=>.ex c h:=by
 have e:=azn p;have ca:=K20.ar1 p.pln.clo
 cases hl:lk t rs with
 |none =>
  rw[hl]at e;exact a6s ca e (Pu.of rfl ca e (je p.pln.clo (by simp)) p.pln.clo)
 |some c =>
  rw[hl]at e;exact ac0 rfl ca e
noncomputable def okW(n w:Nat):D->Bool|.int i=>decide (0<=i/\i+w<=n)|_=>false
def bu:SF:=jw (mj K20.m5 K20.gq) 3
theorem aip{t a:D}{ws:List D}{w:Nat}(pt:PAP.Pln t)(pw:clos 0 ws)(pa:PAP.Pln a):bu [.tup [t,.tup ws],a,bj w] []=if okW ws.length w a=true then .ok (.tup ws) [] else .ex "NoPlace" []:=by
 unfold bu;rw[dm];show toR (mj K20.m5 K20.gq [some (.tup [t,.tup ws]),some a,some (bj w)] [])=_;unfold mj;have pb:PAP.Pln (.tup [t,.tup ws]):=ak pt.clo (ak (gh pw) bx);have isn:=j5 (m9 (au (i:=1) (τ:=[some (.tup [t,.tup ws]),some a,some (bj w)]) rfl) (K20.adq pa [])) (di _);have noX:∀{g:SS} {c:ST} {x:Str},c [some (.tup [t,.tup ws]),some a,some (bj w)] []=.ok true []->toR (gj (sIf c (a5c "NoPlace" (aa (sC (.str x)) aq)) sNx) g [some (.tup [t,.tup ws]),some a,some (bj w)] [])=.ex "NoPlace" []:=λc =>
  ah toR (af0 (ar (ifT c) (abz (cns ckk nlo) (by simp))))
 cases hi:isInt a with
 |false =>
  rw[hi]at isn;have:okW ws.length w a=false:=by cases a<;>first|rfl|simp[isInt]at hi
  rw[this,aL (by decide)]
  exact noX (orT (a0r isn))
 |true =>
  rw[hi]at isn;obtain⟨i,rfl⟩:∃i,a=.int i:=by cases a<;>first|exact⟨_,rfl⟩|simp[isInt]at hi
  by_cases i0:i<0
  .rw[show okW ws.length w (.int i)=false from av (by omega),aL (by decide)]
   exact noX (orF (rm isn) (tvc rfl (aas i0)))
  .refine eti (orF (rm isn) (tvc rfl (a8u i0))) ?_;have row:=K20.a1b pb 2 2;have r2:uy 2 2 (.tup [t,.tup ws])=true:=by simp[uy]
   rw[r2]at row;have ist:xu (sA kh (aa (s2 gIx (sV 0) (sI 1)) (aa (sC (.ty "tuple")) aq))) [some (.tup [t,.tup ws]),some (.int i),some (bj w)] []=.ok true []:=j5 (kj (mz rfl ix1) ckk (PAP.a6q (show PAP.Pln (.tup ws) from pw))) (di _)
   refine eti (orF (rm (j5 (a3a (au rfl) ckk ckk (row _)) (di _))) (rm ist)) ?_;have gt:sT (s2 gGt (s2 gw (sV 1) (sV 2)) (sA my (aa (s2 gIx (sV 0) (sI 1)) aq))) [some (.tup [t,.tup ws]),some (.int i),some (bj w)] []=.ok (decide ((ws.length:Int)<i+w)) [] :=
    t2s (jq (au rfl) (au rfl) a07) (m9 (mz rfl ix1) (K20.len_T ws _)) rfl
   by_cases l:i+w<=ws.length
   .rw[av (by omega)]at gt
    rw[show okW ws.length w (.int i)=true from aw (by omega),ai rfl]
    refine etr (ifN gt) ?_;exact ah toR (fu (mz rfl ix1))
   .rw[aw (by omega)]at gt
    rw[show okW ws.length w (.int i)=false from av (by omega),aL (by decide)]
    exact noX gt
theorem a93{t a:D}{ws:List D}{w:Nat}(pt:PAP.Pln t)(pw:clos 0 ws)(pa:PAP.Pln a)(h:Hd):u5 3 bu [.tup [t,.tup ws],a,bj w] h=if okW ws.length w a=true then .ok (.tup ws) h else .ex "NoPlace" h:=by
 have pb:MI.clo 0 (.tup [t,.tup ws]):=gh (ak pt.clo (ak (gh pw) bx));have ca:=K20.ar3 pb pa.clo (bz (w:Int));have e:=aip (w:=w) pt pw pa
 by_cases o:okW ws.length w a=true
 .rw[ai o]at e ⊢;exact a6s ca e (Pu.of rfl ca e (je (gh pw) (by simp)) (gh pw))
 .rw[aL o]at e ⊢;exact ac0 rfl ca e
end K19
namespace K19
open L2 MI AT HND EVX
open K20 (a4a uy a2b isInt a3b isStr Deep)
open K16 (a3d ix0 ix1 adv)
noncomputable def nw(deed i:Nat)(ws:List D)(x:D):List D:=if deed=0 then ws.take i++[x]++ws.drop i else if deed=1 then ws.take i++ws.drop (i+1) else ws.take i++[ws.getD (i+1) .non,ws.getD i .non]++ws.drop (i+2)
def toN:D->Nat|.int i=>i.toNat|_=>0
def res(deed:Nat)(t:D)(ws:List D)(a x:D):Sum Str D:=if okW ws.length deed a=true then (match lk t (nw deed (toN a) ws x) with|none=>.inr (.tup [t,.tup (nw deed (toN a) ws x)])|some c=>.inl c) else .inl "NoPlace"
noncomputable def axj:Sum Str D->R D|.inl c=>.ex c []|.inr d=>.ok d []
theorem a94{f:SE}{τ:Sd}{t:D}{rs:List D}(e:f τ []=.ok (.tup [t,.tup rs]) [])(p:Deep 13 (.tup [t,.tup rs])):toR (ju (sA (u5 1 K16.dz) (aa f aq)) τ [])=match lk t rs with|none=>.ok (.tup [t,.tup rs]) []|some c=>.ex c []:=by
 have a:sA (u5 1 K16.dz) (aa f aq) τ []=_:=(anf (cns e nlo)).trans (ar5 p [])
 cases hl:lk t rs with
 |none=>rw[hl]at a;exact ah toR (fu a)
 |some c=>rw[hl]at a;exact ah toR (az3 a)
theorem a6y{n w:Nat}{a:D}(h:okW n w a=true):∃j:Nat,a=bj j/\j+w<=n:=by
 cases a<;>first|(cases h;done)|skip
 rename_i i;have:=bI h;exact⟨i.toNat,ah D.int (by omega),by omega⟩
theorem a0g(j:Nat):toN (bj j)=j:=dP j
def qu:SF:=jw (a03 K16.dz bu) 4
def dj:SF:=jw (ug K16.dz bu) 3
def ik:SF:=jw (a04 K16.dz bu) 3
section
variable{t a x:D}{ws:List D}(pt:PAP.Pln t)(pw:clos 0 ws)(pa:PAP.Pln a)(wl:ws.length<=100)
include pt pw pa wl
theorem am4(dk:Deep 13 (.tup [t,.tup (nw 0 (toN a) ws x)])):qu [.tup [t,.tup ws],a,x] []=axj (res 0 t ws a x):=by
 unfold qu;rw[dm];show toR (a03 K16.dz bu [some (.tup [t,.tup ws]),some a,some x,none] [])=_;unfold a03 res;have pl:sA (u5 3 bu) (aa (sV 0) (aa (sV 1) (aa (sC (bj 0)) aq))) [some (.tup [t,.tup ws]),some a,some x,none] []=_:=(anf (cns (au rfl) (cns (au rfl) (cns ckk nlo)))).trans (a93 (w:=0) pt pw pa [])
 by_cases o:okW ws.length 0 a=true
 .rw[ai o]at pl ⊢;obtain⟨j,rfl,hj⟩:=a6y o;rw[a0g]at dk ⊢;refine etr (jr pl) ?_;refine ar (a94 (rs:=nw 0 j ws x) (kj (mz rfl ix0) (jq (jq (PAP.a5r (au rfl) onn (PAP.a5f (au rfl)) (PAP.aby _ _ _)) (m9 (au rfl) a5s) (PAP.a0e (by simp;omega))) (PAP.a5r (au rfl) (PAP.a5f (au rfl)) onn (PAP.yu _ _ _)) (PAP.a0e (by simp;omega))) yt) dk) ?_
  cases lk t (nw 0 j ws x)<;>rfl
 .rw[aL o]at pl ⊢;exact ah toR (af0 (alm pl))
theorem a6z(dk:Deep 13 (.tup [t,.tup (nw 1 (toN a) ws x)])):dj [.tup [t,.tup ws],a] []=axj (res 1 t ws a x):=by
 unfold dj;rw[dm];show toR (ug K16.dz bu [some (.tup [t,.tup ws]),some a,none] [])=_;unfold ug res;have pl:sA (u5 3 bu) (aa (sV 0) (aa (sV 1) (aa (sC (bj 1)) aq))) [some (.tup [t,.tup ws]),some a,none] []=_:=(anf (cns (au rfl) (cns (au rfl) (cns ckk nlo)))).trans (a93 (w:=1) pt pw pa [])
 by_cases o:okW ws.length 1 a=true
 .rw[ai o]at pl ⊢;obtain⟨j,rfl,hj⟩:=a6y o;rw[a0g]at dk ⊢;refine etr (jr pl) ?_;refine ar (a94 (rs:=nw 1 j ws x) (kj (mz rfl ix0) (jq (PAP.a5r (au rfl) onn (PAP.a5f (au rfl)) (PAP.aby _ _ _)) (PAP.a5r (au rfl) (PAP.a5f (mz rfl (DRW.aat (b:=1)))) onn (PAP.yu _ _ _)) (PAP.a0e (by simp;omega))) yt) dk) ?_
  cases lk t (nw 1 j ws x)<;>rfl
 .rw[aL o]at pl ⊢;exact ah toR (af0 (alm pl))
theorem ae6(dk:Deep 13 (.tup [t,.tup (nw 2 (toN a) ws x)])):ik [.tup [t,.tup ws],a] []=axj (res 2 t ws a x):=by
 unfold ik;rw[dm];show toR (a04 K16.dz bu [some (.tup [t,.tup ws]),some a,none] [])=_;unfold a04 res;have pl:sA (u5 3 bu) (aa (sV 0) (aa (sV 1) (aa (sC (bj 2)) aq))) [some (.tup [t,.tup ws]),some a,none] []=_:=(anf (cns (au rfl) (cns (au rfl) (cns ckk nlo)))).trans (a93 (w:=2) pt pw pa [])
 by_cases o:okW ws.length 2 a=true
 .rw[ai o]at pl ⊢;obtain⟨j,rfl,hj⟩:=a6y o;rw[a0g]at dk ⊢;have g:∀i,i<ws.length->ws[i]? = some (ws.getD i .non):=λi hi=>by rw[aZ,a6 hi];rfl
  refine etr (jr pl) ?_;refine ar (a94 (rs:=nw 2 j ws x) (kj (mz rfl ix0) (jq (jq (PAP.a5r (au rfl) onn (PAP.a5f (au rfl)) (PAP.aby _ _ _)) (kj (jq (au rfl) (mz rfl (DRW.aat (b:=1))) (aae (g (j+1) (by omega)))) (jq (au rfl) (au rfl) (aae (g j (by omega)))) yt) (PAP.a0e (by simp;omega))) (PAP.a5r (au rfl) (PAP.a5f (mz rfl (DRW.aat (b:=2)))) onn (PAP.yu _ _ _)) (PAP.a0e (by simp;omega))) yt) dk) ?_
  cases lk t (nw 2 j ws x)<;>rfl
 .rw[aL o]at pl ⊢;exact ah toR (af0 (alm pl))
end
end K19
namespace K19
open L2 MI AT HND EVX
open K20 (Deep)
open K16 (a3d ach)
noncomputable def kd5(c:Str):D:=.tup [.bl (c == "NoPlace"),.bl (c == "NoBook"),.bl (c == "TooHeavy"),.bl false,.bl true]
noncomputable def outD:Sum Str D->D|.inl c=>.tup [.non,kd5 c]|.inr d=>.tup [d,.non]
theorem aiq{deed:Nat}{t:D}{ws:List D}{a x:D}{c:Str}(h:res deed t ws a x=.inl c):c = "NoPlace"\/c = "NoBook"\/c = "TooHeavy":=by
 unfold res at h
 split at h
 .unfold lk at h
  split at h
  .cases h
  .rename_i c' e;cases h
   split at e
   .split at e
    .cases e;exact .inr (.inr rfl)
    .cases e
   .cases e;exact .inr (.inl rfl)
 .cases h;exact .inl rfl
theorem ao2(c:Str):MI.clo 0 (kd5 c):=gh (ak (ud _) (ak (ud _) (ak (ud _) (ak (ud _) (ak (ud _) bx)))))
def jz:SF:=jw (a2k ik qu dj) 7
theorem ar6{deed:Nat}{t a x:D}{ws:List D}(hd:deed<=2)(pt:PAP.Pln t)(pw:clos 0 ws)(pa:PAP.Pln a)(px:MI.clo 0 x)(wl:ws.length<=100)(dk:Deep 13 (.tup [t,.tup (nw deed (toN a) ws x)])) :
  Pu jz 4 [bj deed,.tup [t,.tup ws],a,x] (outD (res deed t ws a x)):=by
 have cb:MI.clo 0 (.tup [t,.tup ws]):=gh (ak pt.clo (ak (gh pw) bx));have cd:∀d,res deed t ws a x=.inr d->MI.clo 0 d:=λd e=>by
  unfold res at e
  split at e
  .split at e
   .cases e;exact dk.pln.clo
   .cases e
  .cases e
 have co:MI.clo 0 (outD (res deed t ws a x)):=by
  cases e:res deed t ws a x with
  |inl c=>exact gh (ak qj (ak (ao2 c) bx))
  |inr d=>exact gh (ak (cd d e) (ak qj bx))
 refine Pu.of rfl (K20.ar4 (bz _) cb pa.clo px) (r:=.ok (outD (res deed t ws a x)) []) ?_ (je co (by simp)) co
 unfold jz;rw[dm];show toR (a2k ik qu dj [some (bj deed),some (.tup [t,.tup ws]),some a,some x,none,none,none] [])=_;unfold a2k;refine etr (jr ckk) ?_;refine etr (jr ckk) ?_;have body:(sIf (qA (sT (s2 hEq (sV 0) (sI 0))))
 (jm 4 (sA (u5 3 qu) (qA (aa (sV 1) (aa (sV 2) (aa (sV 3) aq))))))
 (sIf (qA (sT (s2 hEq (sV 0) (sI 1))))
 (jm 4 (sA (u5 2 dj) (qA (aa (sV 1) (aa (sV 2) aq)))))
 (jm 4 (sA (u5 2 ik) (qA (aa (sV 1) (aa (sV 2) aq))))))) [some (bj deed),some (.tup [t,.tup ws]),some a,some x,some .non,some .non,none] []
   = match res deed t ws a x with|.inl c=>.ex c []|.inr d=>.nx [some (bj deed),some (.tup [t,.tup ws]),some a,some x,some d,some .non,none] []:=by
  have fin:∀{n:Nat} {F:SF} {ds:List D} {k:SA},ds.length=n->(∀y∈ds,MI.clo 0 y)->k [some (bj deed),some (.tup [t,.tup ws]),some a,some x,some .non,some .non,none] []=.ok ds []->F ds []=axj (res deed t ws a x)->
    jm 4 (sA (u5 n F) (qA k)) [some (bj deed),some (.tup [t,.tup ws]),some a,some x,some .non,some .non,none] []=match res deed t ws a x with|.inl c=>.ex c []|.inr d=>.nx [some (bj deed),some (.tup [t,.tup ws]),some a,some x,some d,some .non,none] []:=λhn ca ek ef=>by
   cases e:res deed t ws a x with
   |inl c =>
    rw[e]at ef;exact alm ((anf (qof ek)).trans (ac0 hn ca ef))
   |inr d =>
    rw[e]at ef;have c:=cd d e;exact ach ((anf (qof ek)).trans (a6s ca ef (Pu.of hn ca ef (je c (by simp)) c)))
  match deed,hd with
  |0,_ =>
   refine ar (ifT (qof (tvc rfl (vm rfl)))) ?_;exact fin rfl (K20.ar3 cb pa.clo px) (cns (au rfl) (cns (au rfl) (cns (au rfl) nlo))) (am4 pt pw pa wl dk)
  |1,_ =>
   refine ar (ifF (qof (tvc rfl (ux (by decide))))) ?_
   refine ar (ifT (qof (tvc rfl (vm rfl)))) ?_;exact fin rfl (K20.ar2 cb pa.clo) (cns (au rfl) (cns (au rfl) nlo)) (a6z pt pw pa wl dk)
  |2,_ =>
   refine ar (ifF (qof (tvc rfl (ux (by decide))))) ?_
   refine ar (ifF (qof (tvc rfl (ux (by decide))))) ?_
   exact fin rfl (K20.ar2 cb pa.clo) (cns (au rfl) (cns (au rfl) nlo)) (ae6 pt pw pa wl dk)
 cases e:res deed t ws a x with
 |inr d =>
  rw[e]at body;refine etr (wj (avq body)) ?_;exact ah toR (fu (kj (au rfl) (au rfl) yt))
 |inl c =>
  rw[e]at body;have nm:=aiq e;have hc:zf c=true:=by rcases nm with rfl|rfl|rfl<;>decide +kernel
  have x1:a3v c=some (c == "NoPlace"):=by rcases nm with rfl|rfl|rfl<;>decide +kernel
  have x2:a5p c=some (c == "NoBook"):=by rcases nm with rfl|rfl|rfl<;>decide +kernel
  have x3:a2j c=some (c == "TooHeavy"):=by rcases nm with rfl|rfl|rfl<;>decide +kernel
  have x4:qx c=some false:=by rcases nm with rfl|rfl|rfl<;>decide +kernel
  have x5:a0a c=some true:=by rcases nm with rfl|rfl|rfl<;>decide +kernel
  refine etr (wj (avr body hc (τ2:=[some (bj deed),some (.tup [t,.tup ws]),some a,some x,some .non,some (kd5 c),some (.exc c)]) (h2:=[]) ?_)) ?_
  .refine ar (jr (d:=.tup [.bl (c == "NoPlace"),.bl (c == "NoBook"),.bl (c == "TooHeavy")]) (a3a (ahv rfl x1) (ahv rfl x2) (ahv rfl x3) K16.a95)) ?_;exact ach (jq (au (i:=5) rfl) (kj (ahv rfl x4) (ahv rfl x5) yt) (PAP.a0e (by simp)))
  .exact ah toR (fu (kj (au rfl) (au rfl) yt))
end K19
namespace K19
open L2 MI AT HND EVX
open SHD (Sh sd sds a2c a0f a2d)
open DRW (wt wts)
open K20 (Deep isInt)
open K16 (a3d ach ix0 ix1 rdD bdD Bok wB a7z)
theorem b2t{f g k:SE}{τ:Sd}{h:Hd}{a x b:Int}(e1:f τ h=.ok (.int a) h)(e2:g τ h=.ok (.int x) h)(e3:k τ h=.ok (.int b) h):sCh gLe gLt f g k τ h=.ok (.bl (decide (a<=x/\x<b))) h:=by
 unfold sCh;rw[e1,bc,e2,bc,show gLe (.int a) (.int x) h=.ok (.bl (decide (a<=x))) h from rfl,bc]
 by_cases c:a<=x
 .simp only[c,fg,true_and];rw[e3,bc];rfl
 .simp only[c,eL,false_and]
theorem ao3{α:Type}{ck:Hd->Prop}{f:D->Hd->R D}(g F:α->D){h:Hd}(c:ck h):∀{xs:List α},(∀x∈xs,f (g x) h=.ok (F x) h)->mapR ck f (xs.map g) h=.ok (xs.map F) h
 |[],_=>by rw[cN,mapR,ai c];rfl
 |x::xs,st=>by
  rw[b6,mapR,ai c,st x (by simp),bc,ao3 g F c (xs:=xs) λy hy=>st y (by simp[hy]),bc]
  rfl
theorem ar7{α:Type}{fi:SI}{ck:Hd->Prop}{t:D->Option Sd}{fe:SE}{ix:List Nat}{τ:Sd}{h:Hd}(g F:α->D)(xs:List α)(e:fi τ h=.ok ⟨xs.map g,ck⟩ h)(c:ck h)(z:xs.length<=LINE)
  (st:∀x∈xs,a2n t fe (frs' ix τ) (g x) h=.ok (F x) h):qi fi t fe ix τ h=.ok (.ref h.length) (h++[.lst (xs.map F)]):=by
 unfold qi;rw[e,bc];dsimp only;rw[ai (by rw[aE];exact z),ao3 g F c st]
 rfl
theorem azo:kd5 "NoPlace" = .tup [.bl true,.bl false,.bl false,.bl false,.bl true]:=by
 unfold kd5;rw[show(("NoPlace" : Str) == "NoPlace")=true by decide +kernel,show(("NoPlace" : Str) == "NoBook")=false by decide +kernel,show(("NoPlace" : Str) == "TooHeavy")=false by decide +kernel]
theorem azp:kd5 "NoBook" = .tup [.bl false,.bl true,.bl false,.bl false,.bl true]:=by
 unfold kd5;rw[show(("NoBook" : Str) == "NoPlace")=false by decide +kernel,show(("NoBook" : Str) == "NoBook")=true by decide +kernel,show(("NoBook" : Str) == "TooHeavy")=false by decide +kernel]
theorem azq:kd5 "TooHeavy" = .tup [.bl false,.bl false,.bl true,.bl false,.bl true]:=by
 unfold kd5;rw[show(("TooHeavy" : Str) == "NoPlace")=false by decide +kernel,show(("TooHeavy" : Str) == "NoBook")=false by decide +kernel,show(("TooHeavy" : Str) == "TooHeavy")=true by decide +kernel]
theorem b2u{a b c d e:D}{h:Hd}:MI.jl [a,b,c,d,e] h=.ok (.tup [a,b,c,d,e]) h:=by unfold MI.jl;rw[ai (dh (by simp))]
theorem five{a b c d e:Bool}{τ:Sd}{h:Hd}:sA MI.jl (aa (sC .non) (aa (sA MI.jl (aa (sC (.bl a)) (aa (sC (.bl b)) (aa (sC (.bl c)) (aa (sC (.bl d)) (aa (sC (.bl e)) aq)))))) aq)) τ h=.ok (.tup [.non,.tup [.bl a,.bl b,.bl c,.bl d,.bl e]]) h :=
 kj ckk (aoo (cns ckk (cns ckk (cns ckk (cns ckk (cns ckk nlo))))) b2u) yt
def m7:SF:=jw (a1z K16.j4 K16.iu (DRW.b8 5)) 6
abbrev b2v:SS:=(gj (jm 5 (sA MI.jl (aa (s2 gIx (sV 1) (sI 0)) (aa (sA uc (aa (sV 4) aq)) aq))))
 (gj (sIf (yh (xu (sA (j8 false 1 K16.j4) (aa (sV 5) aq))))
 (ju (sA MI.jl (aa (sC .non) (aa (sA MI.jl (aa (sC (.bl false)) (aa (sC (.bl true)) (aa (sC (.bl false)) (aa (sC (.bl false)) (aa (sC (.bl true)) aq)))))) aq))))
 sNx)
 (gj (sIf (sT (s2 gGt (sA a76 (aa (sZ (qi (sIt (sV 4)) t1 (yg K16.j4 K16.iu (DRW.b8 5)) [])) aq)) (sI 10)))
 (ju (sA MI.jl (aa (sC .non) (aa (sA MI.jl (aa (sC (.bl false)) (aa (sC (.bl false)) (aa (sC (.bl true)) (aa (sC (.bl false)) (aa (sC (.bl true)) aq)))))) aq))))
 sNx)
 (ju (sA MI.jl (aa (sV 5) (aa (sC .non) aq)))))))
theorem ar8{t a0:D}{ws:List D}{rs:List D}{a x:Option D}{hs:Hd}(p:Deep 13 (.tup [t,.tup rs]))(ch:∀o∈hs,wg 0 o) :
  ∃h',toR (b2v [some a0,some (.tup [t,.tup ws]),a,x,some (.ref 0),none] (.lst rs::hs))=.ok (outD (match lk t rs with|none=>.inr (.tup [t,.tup rs])|some c=>.inl c)) h':=by
 have ib:=K16.af3 p;have pr:clos 0 rs:=by
  have:=((p.2 _ rfl).2 (.tup rs) (by simp)).pln
  exact this
 have tp:∀(b:Option D),sA MI.jl (aa (s2 gIx (sV 1) (sI 0)) (aa (sA uc (aa (sV 4) aq)) aq)) [some a0,some (.tup [t,.tup ws]),a,x,some (.ref 0),b] (.lst rs::hs)=.ok (.tup [t,.tup rs]) (.lst rs::hs):=λb =>
  kj (mz rfl ix0) (m9 (au rfl) (abw rfl)) yt
 have st:∀{τ:Sd} {h:Hd} {c:ST} {f:SE} {g:SS} {d:D},c τ h=.ok true h->f τ h=.ok d h->toR (gj (sIf c (ju f) sNx) g τ h)=.ok d h:=λc f=>ah toR (jx (ar (ifT c) (fu f)));refine⟨.lst rs::hs,ar (ah toR (jr (tp _))) ?_⟩;unfold lk
 cases hb:a3d (.tup [t,.tup rs]) with
 |false =>
  rw[hb]at ib;rw[aL (by decide)]
  show _=R.ok (D.tup [.non,kd5 "NoBook"]) _;rw[azp];exact st (a0r (j5 (m9 (au rfl) (ib _)) (di _))) five
 |true =>
  rw[hb]at ib;rw[ai rfl];refine eti (rm (j5 (m9 (au rfl) (ib _)) (di _))) ?_;obtain⟨tg,ps,e,k⟩:=a7z hb
  injection e with e
  injection e with e1 e2
  injection e2 with e2 e3
  injection e2 with e2
  subst e1;subst e2;have z:sA a76 (aa (sZ (qi (sIt (sV 4)) t1 (yg K16.j4 K16.iu (DRW.b8 5)) [])) aq) [some a0,some (.tup [.str (S tg),.tup ws]),a,x,some (.ref 0),some (bdD tg ps)] (.lst (ps.map rdD)::hs)=.ok (bj (wB ps)) (.lst (ps.map rdD)::hs):=by
   refine m9 (a:=.rol ((ps.map λp=>wt p.2).map bj)) ?_ (K16.a92 _ _);refine a5i ?_ (gf λ_ _=>bz _) ?_
   .rw[cK];refine ar7 (h:=.lst (ps.map rdD)::hs) (ck:=λh=>h[0]? = some (.lst (ps.map rdD))) rdD (λp=>bj (wt p.2)) ps (a7t (au rfl) ?_) rfl (dh (by have:=k.few;omega)) λq hq=>?_
    .unfold aiw;rfl
    .rw[yo];exact m9 (mz rfl ix1) (DRW.a4c 5 5 (by omega) q.2 (k.sh q hq) _)
   .intro o ho
    rcases aV.mp ho with rfl|ho
    .exact wz (bE _) pr
    .exact wz (bE _) (ch o ho)
  have gt:sT (s2 gGt (sA a76 (aa (sZ (qi (sIt (sV 4)) t1 (yg K16.j4 K16.iu (DRW.b8 5)) [])) aq)) (sI 10)) [some a0,some (.tup [.str (S tg),.tup ws]),a,x,some (.ref 0),some (bdD tg ps)] (.lst (ps.map rdD)::hs)=.ok (decide (10<wB ps)) (.lst (ps.map rdD)::hs):=by
   refine t2s z ckk ?_;show R.ok (D.bl (decide ((10:Int)<(wB ps:Nat)))) _=_
   congr 2
   exact cF.mpr (by omega)
  rw[awm k p]
  by_cases w:10<wB ps
  .rw[aw w]at gt;rw[ai (by omega)]
   show _=R.ok (D.tup [.non,kd5 "TooHeavy"]) _;rw[azq];exact st gt five
  .rw[av w]at gt;rw[aL (by omega)]
   refine etr (ifN gt) ?_;exact ah toR (fu (kj (au rfl) ckk yt))
end K19
namespace K19
open L2 MI AT HND EVX
open K20 (Deep isInt)
open K16 (a3d ach ix0 ix1)
theorem am5{fe fo:SE}{l u:SO}{τ:Sd}{h h1 h2 h3 h4 h5:Hd}{v o:D}{lo hi:Option Int}(e1:fe τ h=.ok v h1)(e2:fo τ h1=.ok o h2)(e3:l τ h2=.ok lo h3)(e4:u τ h3=.ok hi h4)(e5:aho o lo hi v h4=some h5):aag fe fo l u τ h=.nx τ h5:=by
 unfold aag;simp only[e1,e2,e3,e4,e5,R.fl]
theorem awn{n w:Nat}{a:D}(pa:PAP.Pln a)(τ:Sd)(hv:τ[2]? = some (some a)){fe:SE}{h:Hd}(hf:fe τ h=.ok (.int ((n:Int)+1-w)) h) :
  sOr (yh (xu (sA (j8 false 1 K16.iu) (aa (sA MI.jl (aa (sV 2) aq)) aq)))) (yh (sT (sCh gLe gLt (sI 0) (sV 2) fe))) τ h=.ok (!okW n w a) h:=by
 have row:=j5 (m9 (m9 (au hv) a5s) (am3 pa h)) (di _)
 cases hi:isInt a with
 |false =>
  rw[hi]at row;have:okW n w a=false:=by cases a<;>first|rfl|simp[isInt]at hi
  rw[this];exact orT (a0r row)
 |true =>
  rw[hi]at row;obtain⟨i,rfl⟩:∃i,a=.int i:=by cases a<;>first|exact⟨_,rfl⟩|simp[isInt]at hi
  have c:=b2t (f:=sC (.int 0)) (g:=sV 2) (k:=fe) (τ:=τ) (h:=h) ckk (au hv) hf;have e:decide ((0:Int)<=i/\i<(n:Int)+1-w)=okW n w (.int i):=cF.mpr (by omega)
  rw[e]at c;exact orF (rm row) (K20.adu (tof c))
theorem awo{deed:Nat}{t a x:D}{ws:List D}(hd:deed<=2)(pt:PAP.Pln t)(pw:clos 0 ws)(pa:PAP.Pln a)(px:MI.clo 0 x)(wl:ws.length<=100)(dk:Deep 13 (.tup [t,.tup (nw deed (toN a) ws x)])) :
  Pu m7 4 [bj deed,.tup [t,.tup ws],a,x] (outD (res deed t ws a x)):=by
 have cb:MI.clo 0 (.tup [t,.tup ws]):=gh (ak pt.clo (ak (gh pw) bx));have cd:∀d,res deed t ws a x=.inr d->MI.clo 0 d:=λd e=>by
  unfold res at e
  split at e
  .split at e
   .cases e;exact dk.pln.clo
   .cases e
  .cases e
 have co:MI.clo 0 (outD (res deed t ws a x)):=by
  cases e:res deed t ws a x with
  |inl c=>exact gh (ak qj (ak (ao2 c) bx))
  |inr d=>exact gh (ak (cd d e) (ak qj bx))
 have run:∃h',m7 [bj deed,.tup [t,.tup ws],a,x] []=.ok (outD (res deed t ws a x)) h':=by
  unfold m7;rw[dm];show ∃h',toR (a1z K16.j4 K16.iu (DRW.b8 5) [some (bj deed),some (.tup [t,.tup ws]),some a,some x,none,none] [])=_;unfold a1z;have lst:sA a1l (aa (s2 gIx (sV 1) (sI 1)) aq) [some (bj deed),some (.tup [t,.tup ws]),some a,some x,none,none] []=.ok (.ref 0) [.lst ws]:=m9 (mz rfl ix1) rfl;rw[jr lst];have ch:=awn (n:=ws.length) (w:=deed) pa [some (bj deed),some (.tup [t,.tup ws]),some a,some x,some (.ref 0),none] rfl (fe:=s2 MI.a4e (s2 gw (sA my (aa (sV 4) aq)) (sI 1)) (sV 0)) (h:=[.lst ws]) (jq (jq (m9 (au rfl) (aqj rfl)) ckk a07) (au rfl) (vo _ _))
  show ∃h',toR (gj _ _ [some (bj deed),some (.tup [t,.tup ws]),some a,some x,some (.ref 0),none] [.lst ws])=_;unfold res
  by_cases o:okW ws.length deed a=true
  .rw[o]at ch;rw[ai o,ifN ch];obtain⟨j,rfl,hj⟩:=a6y o;rw[a0g]at dk ⊢;have g:∀i,i<ws.length->ws[i]? = some (ws.getD i .non):=λi hi=>by rw[aZ,a6 hi];rfl
   have chg:∃hs,(∀o∈hs,wg 0 o)/\(sIf (sT (s2 hEq (sV 0) (sI 0)))
 (a1j (sML ax8 (sV 4) (aa (sV 2) (aa (sV 3) aq))))
 (sIf (sT (s2 hEq (sV 0) (sI 1)))
 (a1j (sML a7l (sV 4) (aa (sV 2) aq)))
 (aag (sA MI.wu (aa (s2 gIx (sV 4) (s2 gw (sV 2) (sI 1))) (aa (s2 gIx (sV 4) (sV 2)) aq))) (sV 4) (oS (sV 2)) (oS (s2 gw (sV 2) (sI 2)))))) [some (bj deed),some (.tup [t,.tup ws]),some (bj j),some x,some (.ref 0),none] [.lst ws]
     = .nx [some (bj deed),some (.tup [t,.tup ws]),some (bj j),some x,some (.ref 0),none] (.lst (nw deed j ws x)::hs):=by
    match deed,hd,hj with
    |0,_,hj =>
     refine⟨[],by simp,?_⟩
     refine ar (ifT (tvc rfl (vm rfl))) ?_;have e:nw 0 j ws x=ws.take j++x::ws.drop j:=by unfold nw;rw[ai rfl];simp
     rw[e];refine a6n (v:=.non) (au rfl) rfl (cns (au rfl) (cns (au rfl) nlo)) ?_;show(if ws.length<LINE/\j<=ws.length then R.ok D.non (([.lst ws]:Hd).set 0 (.lst (ws.take j++x::ws.drop j))) else .no)=_
     rw[ai ⟨aaf (by omega),by omega⟩]
     rfl
    |1,_,hj =>
     refine⟨[],by simp,?_⟩
     refine ar (ifF (tvc rfl (ux (by decide)))) ?_
     refine ar (ifT (tvc rfl (vm rfl))) ?_;have e:nw 1 j ws x=ws.eraseIdx j:=by unfold nw;rw[aL (by decide),ai rfl,List.eraseIdx_eq_take_drop_succ]
     rw[e];exact a6n (au rfl) rfl (cns (au rfl) nlo) (aqi (i:=0) (h:=[.lst ws]) rfl (g j (by omega)) (dh (by omega)))
    |2,_,hj =>
     refine⟨[.lst [ws.getD (j+1) .non,ws.getD j .non]],?_,?_⟩
     .intro o ho
      rw[aI]at ho;subst ho;exact ak (EVT.qg pw) (ak (EVT.qg pw) bx)
     refine ar (ifF (tvc rfl (ux (by decide)))) ?_
     refine ar (ifF (tvc rfl (ux (by decide)))) ?_
     have ixr:∀i,i<ws.length->gIx (.ref 0) (bj i) [.lst ws]=.ok (ws.getD i .non) [.lst ws]:=λi hi=>by
      rw[a7s];show(match atI ws (bj i |> λ_=>(i:Int)) with|some d=>R.ok d [O.lst ws]|none=>.no)=_
      simp only[uz (g i hi)]
     refine am5 (h1:=[.lst ws,.lst [ws.getD (j+1) .non,ws.getD j .non]]) (v:=.ref 1) (kj (jq (au rfl) (mz rfl (DRW.aat (b:=1))) (ixr (j+1) (by omega))) (jq (au rfl) (au rfl) (ixr j (by omega))) ?_) (au rfl) (PAP.a5f (au rfl)) (PAP.a5f (mz rfl (DRW.aat (b:=2)))) ?_
     .unfold MI.wu;rw[ai (dh (by simp))]
      rfl
     .show(if (0:Nat)≠1/\j<=j+2/\j+2<=ws.length/\ws.length+([ws.getD (j+1) .non,ws.getD j .non]:List D).length<=LINE then some (([.lst ws,.lst [ws.getD (j+1) .non,ws.getD j .non]]:Hd).set 0 (.lst (ws.take j++[ws.getD (j+1) .non,ws.getD j .non]++ws.drop (j+2)))) else none)=_
      rw[ai ⟨by decide,by omega,by omega,dh (by simp;omega)⟩]
      rfl
   obtain⟨hs,chs,e⟩:=chg;rw[wj e];exact ar8 dk chs
  .rw[dZ o]at ch;rw[aL o];refine⟨[.lst ws],ah toR (jx (ar (ifT ch) (fu ?_)))⟩
   .show _=R.ok (D.tup [.non,kd5 "NoPlace"]) _;rw[azo];exact five
 obtain⟨h',e⟩:=run;exact Pu.of rfl (K20.ar4 (bz _) cb pa.clo px) e (je co (by simp)) co
end K19
namespace K19
open L2 MI AT HND EVX
open SHD (Sh sd sds a2c)
open K20 (Deep)
open K16 (a3d rdD bdD Bok a7z nmO a7c thB thL xr acf)
theorem ar9{t:Str}{rs:List D}:a3d (.tup [.str t,.tup rs])=true↔K20.a8w t.cps.toList=true/\rs.length<=6/\rs.all (a7c t.cps.toList)=true/\(rs.filterMap nmO).Nodup:=by
 show(K20.a8w t.cps.toList && (decide (rs.length<=6) && (rs.all (a7c t.cps.toList) && decide (rs.filterMap nmO).Nodup)))=true↔_;simp only[af,b9]
theorem ao4{t:Str}{rs:List D}:lk (.str t) rs=none↔(K20.a8w t.cps.toList=true/\rs.length<=6/\rs.all (a7c t.cps.toList)=true/\(rs.filterMap nmO).Nodup)/\wR rs<=10:=by
 rw[<-ar9];unfold lk
 by_cases h:a3d (.tup [.str t,.tup rs])=true
 .rw[ai h]
  by_cases w:10<wR rs
  .rw[ai w];exact⟨λz=>(by cases z),λz=>(by omega)⟩
  .rw[aL w];exact⟨λ_=>⟨h,by omega⟩,λ_=>rfl⟩
 .rw[aL h];exact⟨λz=>(by cases z),λz=>absurd z.1 h⟩
theorem ais(x:D)(l:List D):wR (x::l)=wR1 x+wR l:=by unfold wR;rw[b6,dS]
theorem awp{t:Str}{a b:List D}{x:D}(h:lk (.str t) (a++[x]++b)=none):lk (.str t) (a++b)=none:=by
 rw[ao4]at h ⊢;obtain⟨⟨h1,h2,h3,h4⟩,h5⟩:=h;refine⟨⟨h1,?_,?_,?_⟩,?_⟩
 .simp only[a9,ay]at h2 ⊢;omega
 .rw[eB,eB,af,af]at h3;rw[eB,af];exact⟨h3.1.1,h3.2⟩
 .refine List.Nodup.sublist (List.Sublist.filterMap _ ?_) h4;rw[c9];exact(List.Sublist.refl a).append (List.sublist_cons_self x b)
 .rw[ae5,ae5,ais]at h5;rw[ae5];omega
theorem ara{t:Str}{a b:List D}{u v:D}(h:lk (.str t) (a++[u,v]++b)=none):lk (.str t) (a++[v,u]++b)=none:=by
 rw[ao4]at h ⊢;obtain⟨⟨h1,h2,h3,h4⟩,h5⟩:=h;have p:(a++[u,v]++b).Perm (a++[v,u]++b):=((List.Perm.refl a).append (List.Perm.swap v u [])).append (List.Perm.refl b);refine⟨⟨h1,?_,?_,?_⟩,?_⟩
 .simpa using h2
 .rw[aO]at h3 ⊢;exact λx hx=>h3 x (p.mem_iff.mpr hx)
 .exact(p.filterMap nmO).nodup_iff.mp h4
 .simp only[ae5,ais]at h5 ⊢;omega
theorem nw0{j:Nat}{ws:List D}{x:D}:nw 0 j ws x=ws.take j++[x]++ws.drop j:=by unfold nw;rw[ai rfl]
theorem nw1{j:Nat}{ws:List D}{x:D}:nw 1 j ws x=ws.take j++ws.drop (j+1):=by unfold nw;rw[aL (by decide),ai rfl]
theorem nw2{j:Nat}{ws:List D}{x:D}:nw 2 j ws x=ws.take j++[ws.getD (j+1) .non,ws.getD j .non]++ws.drop (j+2):=by unfold nw;rw[aL (by decide),aL (by decide)]
theorem azr{j:Nat}{ws:List D}{x y:D}(hj:j<=ws.length):nw 1 j (nw 0 j ws x) y=ws:=by
 rw[nw1,nw0];have l:(ws.take j).length=j:=by rw[aR];omega
 have e1:(ws.take j++[x]++ws.drop j).take j=ws.take j:=by rw[c9,eQ (by omega),bB (by omega)]
 have e2:(ws.take j++[x]++ws.drop j).drop (j+1)=ws.drop j:=by
  have:(ws.take j++[x]).length=j+1:=by simp[l]
  rw[<-this,List.drop_left]
 rw[e1,e2,eM]
theorem ao5{j:Nat}{ws:List D}(hj:j+2<=ws.length):ws=ws.take j++[ws.getD j .non,ws.getD (j+1) .non]++ws.drop (j+2):=by
 have g:∀i,i<ws.length->ws.drop i=ws.getD i .non::ws.drop (i+1):=λi hi=>by
  rw[cJ hi,aZ,a6 hi];rfl
 conv=>lhs;rw[<-eM j ws,g j (by omega),g (j+1) (by omega)]
 simp
theorem azs{j:Nat}{ws:List D}{x y:D}(hj:j+2<=ws.length):nw 2 j (nw 2 j ws x) y=ws:=by
 have l:(ws.take j).length=j:=by rw[aR];omega
 have go:∀(u v:D),nw 2 j (ws.take j++[u,v]++ws.drop (j+2)) y=ws.take j++[v,u]++ws.drop (j+2):=λu v=>by
  rw[nw2];have e1:(ws.take j++[u,v]++ws.drop (j+2)).take j=ws.take j:=by rw[c9,eQ (by omega),bB (by omega)]
  have e2:(ws.take j++[u,v]++ws.drop (j+2)).drop (j+2)=ws.drop (j+2):=by
   have:(ws.take j++[u,v]).length=j+2:=by simp[l]
   exact List.drop_left' this
  have e3:(ws.take j++[u,v]++ws.drop (j+2)).getD j .non=u:=by
   rw[aZ,c9,aK (by omega),l,Nat.sub_self];rfl
  have e4:(ws.take j++[u,v]++ws.drop (j+2)).getD (j+1) .non=v:=by
   rw[aZ,c9,aK (by omega),l,show j+1-j=1 by omega];rfl
  rw[e1,e2,e3,e4]
 rw[nw2 (x:=x),go];exact(ao5 hj).symm
theorem am6{b:Bool}{deed j:Nat}{ws:List D}{x:D}(h:thL b ws=true)(hx:thB b x=true):thL b (nw deed j ws x)=true:=by
 have tk:∀k,∀y∈ws.take k,thB b y=true:=λk y hy=>xr.mp h y (eT hy);have dr:∀k,∀y∈ws.drop k,thB b y=true:=λk y hy=>xr.mp h y (List.mem_of_mem_drop hy);have gd:∀k,thB b (ws.getD k .non)=true:=λk=>by
  rw[aZ]
  cases e:ws[k]? with
  |none=>rfl
  |some y=>exact xr.mp h y (bq e)
 rw[xr]
 intro y hy
 unfold nw at hy
 split at hy
 .simp only[bG,aI]at hy
  rcases hy with(hy|rfl)|hy
  .exact tk _ y hy
  .exact hx
  .exact dr _ y hy
 .split at hy
  .rcases bG.mp hy with hy|hy
   .exact tk _ y hy
   .exact dr _ y hy
  .simp only[bG,aV,c8,eF]at hy
   rcases hy with(hy|rfl|rfl)|hy
   .exact tk _ y hy
   .exact gd _
   .exact gd _
   .exact dr _ y hy
theorem awq{deed j:Nat}{ws:List D}{x:D}:(nw deed j ws x).length<=ws.length+2:=by
 unfold nw
 split
 .simp only[a9,aR,ay,aY];omega
 .split
  .simp only[a9,aR,aY];omega
  .simp only[a9,aR,aM,bg,aY];omega
theorem aci{b:Bool}{deed j:Nat}{ws:List D}{t x:D}(ht:thB b t=true)(h:thL b ws=true)(hx:thB b x=true)(l:ws.length<=90):Deep 13 (.tup [t,.tup (nw deed j ws x)]):=by
 refine acf (b:=b) 13 ?_;have a:=am6 (deed:=deed) (j:=j) h hx;have c:thB b (.tup (nw deed j ws x))=true:=by
  rw[thB,a,aw (by have:=awq (deed:=deed) (j:=j) (ws:=ws) (x:=x);omega)];rfl
 show(decide (2<=100) && (thB b t && (thB b (.tup (nw deed j ws x)) && true)))=true;rw[ht,c];rfl
theorem awr{tg:List Nat}{ps:List (Str×Sh)}(k:Bok tg ps):pur 59 (bdD tg ps)=true:=by
 have:(ps.map rdD).all (pur 57)=true:=by
  rw[aO]
  intro x hx
  obtain⟨r,hr,rfl⟩:=bF.mp hx;show((true && (pur 56 (sd r.2) && true))=true);rw[ad5 (by omega) (DRW.aao (k.sh r hr))]
  rfl
 show(true && ((ps.map rdD).all (pur 57) && true))=true;rw[this];rfl
theorem arb{deed:Nat}{t a x:D}{ws:List D}:pur 60 (outD (res deed t ws a x))=true:=by
 unfold res
 split
 .split
  .rename_i e;unfold lk at e
   split at e
   .rename_i h;obtain⟨tg,ps,e2,k⟩:=a7z h;rw[e2];show(pur 59 (bdD tg ps) && true)=true;rw[awr k];rfl
   .cases e
  .rfl
 .rfl
end K19
namespace K19
open L2 MI AT HND EVX
open PAP hiding a0u a5s a7b a6r aof
open SRC (Src)
open DRW
open K16 (a4w a2m)
open SHD (Sh sd sds a2c)
open DRW (dw Rule rlD Bk bkD)
open K16 (a4w a2m Odd TT TL ix0 ix1 adv all_cons all_nil acg a6t SB ain ach am2)
theorem arc{x:List Nat}{l:List (List Nat)}(h:Hd):gIn false (nmD x) (a2m l) h=.ok (.bl (decide (x∈l))) h:=by
 have go:∀l:List (List Nat),inD (nmD x) (l.map nmD)=decide (x∈l):=λl=>by
  induction l with
  |nil=>simp[inD]
  |cons y l ih =>
   show(eqF (nmD y) (nmD x) || inD (nmD x) (l.map nmD))=_
   rw[ih];show((S y == S x) || decide (x∈l))=_
   rw[aqf]
   by_cases q:y=x
   .subst q;simp
   .simp[q,dW q]
 have fl:(l.map nmD).all zr=true:=by
  rw[aO]
  intro y hy
  obtain⟨z,_,rfl⟩:=bF.mp hy;rfl
 unfold gIn;dsimp only;have sq:ww (a2m l) h=some (l.map nmD):=rfl;simp only[sq];rw[ai ⟨rfl,fl⟩,aL (by decide),go]
theorem am7{xs:List D}{h:Hd}{d:D}(hx:xs[xs.length-1]? = some d):gIx (.rol xs) (.int (-1)) h=.ok d h:=by
 have lt:xs.length-1<xs.length:=(ae.mp hx).1;have n:ixN xs.length (-1)=some (xs.length-1):=by
  unfold ixN;rw[aL (by omega),ai (by omega)]
  congr 1
  omega
 rw[a7r];simp only[atI,n,Option.bind_some,hx]
theorem am8{ns:List (List Nat)}(hn:ns.length<=6)(ok:∀x∈ns,DRW.Nm x){o:O}{N:Nat}(P:Src o N)(hN:N<=900000000):∃x o',Dr iw 2 [a2m ns] o (nmD x) o'/\DRW.Nm x/\x∉ns/\Src o' (N+11):=by
 obtain⟨r0,o1,e1,r0b,P1⟩:=dw (m:=8) P (by omega) (by decide) (by decide)
 have lett:∀r:Nat,r<26->∀hh:Hd,∃c,c∈az/\gIx (.str (S az)) (bj r) hh=.ok (.str (S [c])) hh:=λr hr hh=>by
  have hl:r<az.length:=by rw[a4d];exact hr
  exact⟨az[r],bo hl,aj1 (dh (by rw[a4d];omega)) (a6 hl)⟩
 obtain⟨ys,o2,e2,q,P2,_⟩:=ae1 (fi:=sRg a0l (aa (s2 gw (sI 1) (sA (j8 false 2 SRC.aj) (aa (sV 0) (aa (sI 8) aq)))) aq)) (t:=MI.t1) (fe:=yz SRC.aj) (ix:=[0,2]) (τ:=[some (.ref 0),some (a2m ns),some (.str (S az)),none,none,none,none,none]) (o0:=o) (hs:=[]) (List.range (1+r0)) bj (λc:Nat=>nmD [c]) (λ_ c=>c∈az) (B:=1) (M:=900000100) P1 (by rw[bL];omega) (by rw[bL];omega) nlc (by
   have a1:aa (s2 gw (sI 1) (sA (j8 false 2 SRC.aj) (aa (sV 0) (aa (sI 8) aq)))) aq [some (.ref 0),some (a2m ns),some (.str (S az)),none,none,none,none,none] [o]=.ok [bj (1+r0)] [o1]:=arg1 (jq ckk (kj (au rfl) ckk (drz e1)) (aat (a:=1)));unfold sRg;rw[a1,bc];exact aac _ (dh (by omega))) (λi _ u M Pu hM=>by
   obtain⟨r,u',e,rb,Pu'⟩:=dw (m:=26) Pu (by omega) (by decide) (by decide)
   obtain⟨c,hc,gx⟩:=lett r (by omega) [u']
   refine⟨c,u',?_,cj _,hc,Pu'⟩;rw[yo];exact jq (au rfl) (kj (au rfl) ckk (drz e)) gx)
 have ql:=q.len;rw[bL]at ql P2;have jn:abh (.str (S [])) [.rol (ys.map λc:Nat=>nmD [c])] [o2]=.ok (nmD ys) [o2]:=by
  have j:=K76.anq (ls:=ys.map λc=>[c]) (h:=[o2]) (by rw[ENG.a4b];omega)
  rw[cK,ENG.a4b]at j;exact j
 have Y:DRW.Nm ys:=⟨by omega,by omega,λc hc=>by obtain⟨_,_,h⟩:=q.rt c hc;exact h⟩
 obtain⟨x0,o3,X,P3,e3⟩:∃x0 o3,DRW.Nm x0/\Src o3 (N+10)/\∀g:SS,gj (sIf (zj (sT (s2 (a8o true) (sV 1) (sZ (sA MI.wu aq)))) (sT (s2 hEq (sA (j8 false 2 SRC.aj) (aa (sV 0) (aa (sI 2) aq))) (sI 0)))) (jm 3 (s2 gIx (sV 1) (s1 agh (sI 1)))) sNx) g [some (.ref 0),some (a2m ns),some (.str (S az)),some (nmD ys),none,none,none,none] [o2]=g [some (.ref 0),some (a2m ns),some (.str (S az)),some (nmD x0),none,none,none,none] [o3]:=by
  have z0:sZ (sA MI.wu aq) [some (.ref 0),some (a2m ns),some (.str (S az)),some (nmD ys),none,none,none,none] [o2]=.ok (.rol []) [o2]:=zds nlo rfl bx (EVT.vz P2.clo) (by simp)
  have c1:sT (s2 (a8o true) (sV 1) (sZ (sA MI.wu aq))) [some (.ref 0),some (a2m ns),some (.str (S az)),some (nmD ys),none,none,none,none] [o2]=.ok (!ns.isEmpty) [o2]:=t2s (au rfl) z0 (a4w true ns _)
  by_cases em:ns.isEmpty=true
  .rw[em]at c1;exact⟨ys,o2,Y,P2.up (by omega),λg=>ifN (a5j c1)⟩
  .have em:ns.isEmpty=false:=by simpa using em
   rw[em]at c1;obtain⟨b,o3,e,_,P3⟩:=dw (m:=2) P2 (by omega) (by decide) (by decide)
   have d1:sA (j8 false 2 SRC.aj) (aa (sV 0) (aa (sI 2) aq)) [some (.ref 0),some (a2m ns),some (.str (S az)),some (nmD ys),none,none,none,none] [o2]=.ok (bj b) [o3]:=kj (au rfl) ckk (drz e)
   by_cases b0:b=0
   .have nl:ns.length-1<ns.length:=by
     have:0<ns.length:=by cases ns with|nil=>simp at em|cons=>simp
     omega
    have gl:gIx (a2m ns) (.int (-1)) [o3]=.ok (nmD ns[ns.length-1]) [o3]:=am7 (xs:=ns.map nmD) (by rw[aE,bV,a6 nl];rfl)
    refine⟨ns[ns.length-1],o3,ok _ (bo nl),P3.up (by omega),λg=>wj (ar (ifT (h1:=[o3]) (a4f c1 (t2s d1 ckk (vm (by omega))))) (aqh (jq (au rfl) (aar ckk (a2y _)) gl)))⟩
   .exact⟨ys,o3,Y,P3.up (by omega),λg=>ifN (h1:=[o3]) (a4f c1 (t2s d1 ckk (ux (by omega))))⟩
 obtain⟨a,o4,e4,ab,P4⟩:=dw (m:=(x0.length:Int)) P3 (by omega) (by have:=X.lo;omega) (by have:=X.hi;omega)
 have ha:a<x0.length:=by omega
 obtain⟨f,hf,fa,fx⟩:=aw6 (X.az _ (bo ha)) [o4];have start:nx x0 a f 0=x0:=by
  unfold nx;have:az[(f+0)%26]? = some x0[a]:=by rw[Nat.add_zero,Nat.mod_eq_of_lt hf];exact fa
  rw[this];exact List.set_getElem_self ha
 have X8:=X.hi
 rcases auw (c:=qw SRC.aj) (f:=za SRC.aj)
  (λm τ h=>∃(j:Nat) (t7:Option D),τ=[some (.ref 0),some (a2m ns),some (.str (S az)),some (nmD (nx x0 a f j)),some (bj a),some (bj f),some (bj j),t7]/\h=[o4]/\m=26-j/\j<=6/\∀i<j,nx x0 a f i∈ns)
  (λτ h=>∃(j:Nat) (t7:Option D),τ=[some (.ref 0),some (a2m ns),some (.str (S az)),some (nmD (nx x0 a f j)),some (bj a),some (bj f),some (bj j),t7]/\h=[o4]/\nx x0 a f j∉ns) (λ_ _=>False)
  (by
   rintro m τ h ⟨j,t7,rfl,rfl,rfl,j6,all⟩
   have c:qw SRC.aj [some (.ref 0),some (a2m ns),some (.str (S az)),some (nmD (nx x0 a f j)),some (bj a),some (bj f),some (bj j),t7] [o4]=.ok (decide (nx x0 a f j∈ns)) [o4]:=t2s (au rfl) (au rfl) (arc _)
   by_cases q:nx x0 a f j∈ns
   .right
    rw[aw q]at c;refine⟨_,c,.inl ?_⟩;have few:j+1<=6:=by
     have:=aca (l:=(List.range (j+1)).map (nx x0 a f)) (m:=ns) (by
      rw[fq,fH];refine fI ?_ (List.nodup_range (n:=j+1))
      intro u v hu hv ne e
      exact ne (anv ha (by have:=c6.mp hu;omega) (by have:=c6.mp hv;omega) e)) (λy hy=>by
      obtain⟨i,hi,rfl⟩:=bF.mp hy;have:=c6.mp hi
      by_cases z:i=j
      .subst z;exact q
      .exact all i (by omega))
     rw[aE,bL]at this;omega
    have l1:(nx x0 a f j).length=x0.length:=by unfold nx;rw[cY]
    have md:a3n (bj (f+(j+1))) (.int 26) [o4]=.ok (bj ((f+(j+1))%26)) [o4]:=(a5e (by decide)).trans (by show R.ok (D.int (((f+(j+1):Nat):Int)%((26:Nat):Int))) _=_;rw[<-Int.natCast_emod])
    have gx:gIx (.str (S az)) (bj ((f+(j+1))%26)) [o4]=.ok (.str (S [az[(f+(j+1))%26]?.getD 0])) [o4]:=aj1 (dh (by rw[a4d];omega)) (aif _)
    have cut:s2 gw (s2 gw (a2g (sV 3) oN (oS (sV 4))) (sV 7)) (a2g (sV 3) (oS (s2 gw (sV 4) (sI 1))) oN) [some (.ref 0),some (a2m ns),some (.str (S az)),some (nmD (nx x0 a f j)),some (bj a),some (bj f),some (bj (j+1)),some (.str (S [az[(f+(j+1))%26]?.getD 0]))] [o4]=.ok (nmD (nx x0 a f (j+1))) [o4]:=by
     refine ar (jq (jq (a5r (au rfl) onn (a5f (au rfl)) (avb a (dh (by omega)))) (au rfl) (a8p (dh (by simp only[aR,ay];omega)))) (a5r (au rfl) (a5f (mz rfl (aat (b:=1)))) onn (adl (a+1) (dh (by omega)))) (a8p (dh (by simp only[a9,aR,aY,ay];omega)))) ?_
     rw[anw ha];rfl
    refine⟨_,_,26-(j+1),ar (wj (abv rfl ckk rfl)) (ar (jr (jq (au rfl) (jq (jq (au rfl) (au rfl) (aat (b:=j+1))) ckk md) gx)) (aqh cut)),by omega,j+1,_,rfl,rfl,rfl,few,λi hi=>?_⟩
    by_cases z:i=j
    .subst z;exact q
    .exact all i (by omega)
   .left
    rw[av q]at c;exact⟨_,c,j,t7,rfl,rfl,q⟩)
  26 100000 [some (.ref 0),some (a2m ns),some (.str (S az)),some (nmD (nx x0 a f 0)),some (bj a),some (bj f),some (bj 0),none] [o4] (by omega) ⟨0,none,rfl,rfl,rfl,by omega,λi hi=>absurd hi (by omega)⟩ with⟨τ',h',ew,j,t7,rfl,rfl,nin⟩|⟨_,_,_,z⟩
 .refine⟨nx x0 a f j,o4,Dr.of rfl (by intro d hd;rw[aI]at hd;subst hd;exact v7 (a4v ns)) P.clo ?_ (je (cj _) (h1:=[o4]) (show ∀u∈[o4],wg 1 u from λu hu=>by rw[aI]at hu;subst hu;exact wz (bE _) P4.clo)) (cj _) P4.clo,aw7 X,nin,P4⟩
  unfold iw;rw[dm];show toR (xj SRC.aj [some (.ref 0),some (a2m ns),none,none,none,none,none,none] [o])=_;unfold xj;rw[az8];refine etr (jr ckk) ?_;refine ets (K76.axe (z:=S []) ckk (arg1 e2) jn) ?_;refine etr (e3 _) ?_;refine ets (kj (au rfl) (m9 (au rfl) (a78 (dh (by omega)))) (drz e4)) ?_
  refine ets (K76.axe (au rfl) (arg1 (jq (au rfl) (au rfl) (aj1 (dh (by omega)) (a6 ha)))) fx) ?_
  refine etr (jr ckk) ?_;rw[start]at ew;refine etr (wj ew) ?_;exact ah toR (fu (au rfl))
 .exact z.elim
theorem p59(h:Hd):a6e (.int 10) (.int 59) h=.ok (bj (10^59)) h:=(aq8 ⟨by decide,by decide,by decide⟩).trans (by rw[show(10:Int)^(59:Int).toNat=((10^59:Nat):Int) from by decide +kernel])
def jc:SF:=jw (a05 SRC.aj) 3
theorem am9{n:Nat}(hn:n<=10){o:O}{N:Nat}(P:Src o N)(hN:N<=800000000):∃a o',Dr jc 2 [bj n] o a o'/\PAP.Pln a/\Src o' (N+3):=by
 have co:=P.clo;have run:∃a o',jc [.ref 0,bj n] [o]=.ok a [o']/\PAP.Pln a/\Src o' (N+3):=by
  unfold jc;rw[dm];show ∃a o',toR (a05 SRC.aj [some (.ref 0),some (bj n),none] [o])=.ok a [o']/\_;unfold a05;obtain⟨s,o1,e1,sb,P1⟩:=dw (m:=10) P (by omega) (by decide) (by decide)
  rw[jr (kj (au rfl) ckk (drz e1))];show ∃a o',toR (gj _ _ [some (.ref 0),some (bj n),some (bj s)] [o1])=.ok a [o']/\_;have lt:sT (s2 gLt (sV 2) (sI 7)) [some (.ref 0),some (bj n),some (bj s)] [o1]=.ok (decide (s<7)) [o1]:=by
   refine tvc rfl ?_;show R.ok (D.bl (decide ((s:Int)<((7:Nat):Int)))) _=_
   congr 2
   exact cF.mpr (by omega)
  by_cases s7:s<7
  .rw[aw s7]at lt;obtain⟨r,o2,e2,rb,P2⟩:=dw (m:=((n+3:Nat):Int)) P1 (by omega) (by omega) (by omega)
   exact⟨bj r,o2,ah toR (jx (ar (ifT lt) (fu (kj (au rfl) (mz rfl (DRW.aat (b:=3))) (drz e2))))),trivial,P2.up (by omega)⟩
  .rw[av s7]at lt;rw[ifN lt];obtain⟨r,o2,e2,rb,P2⟩:=dw (m:=3) P1 (by omega) (by decide) (by decide)
   obtain⟨i,o3,e3,ib,P3⟩:=dw (m:=6) P2 (by omega) (by decide) (by decide)
   have d6:sA MI.jl (aa (s2 MI.a4e (MI.s1 agh (sI 1)) (sA (j8 false 2 SRC.aj) (aa (sV 0) (aa (sI 3) aq)))) (aa (s2 gw (s2 a6e (sI 10) (sI 59)) (sV 1)) (aa (sC (.bl true)) (aa (sC .non) (aa (sC (.str "0")) (aa (sA MI.jl (aa (sI 0) aq)) aq)))))) [some (.ref 0),some (bj n),some (bj s)] [o1]
     = .ok (.tup [.int (-1-r),bj (10^59+n),.bl true,.non,.str "0",.tup [.int 0]]) [o2]:=by
    refine aoo (cns (jq (aar ckk (a2y _)) (kj (au rfl) ckk (drz e2)) (vo _ _)) (cns (jq (jq ckk ckk (p59 _)) (au rfl) DRW.aat) (cns ckk (cns ckk (cns ckk (cns (m9 ckk a5s) nlo)))))) ?_;unfold MI.jl;rw[ai (dh (by simp))]
   have al:∀x∈([.int (-1-r),bj (10^59+n),.bl true,.non,.str "0",.tup [.int 0]]:List D),PAP.Pln x :=
    all_cons trivial (all_cons trivial (all_cons trivial (all_cons trivial (all_cons (show("0" : Str).cps.toList.length<=1000 by decide +kernel) (all_cons (show clos 0 [.int 0] from ak (bz _) bx) all_nil)))))
   have l6:([.int (-1-r),bj (10^59+n),.bl true,.non,.str "0",.tup [.int 0]]:List D).length=6:=rfl
   generalize ([.int (-1-r),bj (10^59+n),.bl true,.non,.str "0",.tup [.int 0]]:List D)=six at d6 al l6
   have i6:i<six.length:=by omega
   exact⟨six[i],o3,ah toR (fu (jq d6 (kj (au rfl) ckk (drz e3)) (aae (a6 i6)))),al _ (bo i6),P3.up (by omega)⟩
 obtain⟨a,o',e,pa,P'⟩:=run;exact⟨a,o',Dr.of rfl (by intro d hd;rw[aI]at hd;subst hd;exact bz _) co e (je (h1:=[o']) (a7p (bE _) pa.clo) (show ∀u∈[o'],wg 1 u from λu hu=>by rw[aI]at hu;subst hu;exact wz (bE _) P'.clo)) pa.clo P'.clo,pa,P'⟩
def NR(N z p:Nat)(r:R D):Prop:=∃x o' hs,r=.ok x (o'::hs)/\Odd z p x/\Src o' N
theorem NR.tr{N z p:Nat}{x y:Fl}(e:x=y)(h:NR N z p (toR y)):NR N z p (toR x):=e ▸ h
theorem NR.to{F:SF}{n N z p:Nat}{o:O}{ds:List D}(h:NR N z p (F (.ref 0::ds) [o]))(hn:ds.length+1=n)(cd:∀x∈ds,MI.clo 0 x)(co:wg 0 o):∃x o',Dr F n ds o x o'/\Odd z p x/\Src o' N:=by
 obtain⟨x,o',hs,e,⟨b,t⟩,P⟩:=h;exact⟨x,o',Dr.of hn cd co e (je (h1:=o'::hs) (a7p (bE _) t.clo) (show ∀u∈[o'],wg 1 u from λu hu=>by rw[aI]at hu;subst hu;exact wz (bE _) P.clo)) t.clo P.clo,⟨b,t⟩,P⟩
theorem NR.of{N z p:Nat}{b:Bool}{x:D}{o':O}{hs:Hd}{f:Fl}(e:f=.rt x (o'::hs))(t:TT b z p x)(P:Src o' N):NR N z p (toR f):=⟨x,o',hs,ah toR e,⟨b,t⟩,P⟩
def xS:List Nat:=("X" : Str).cps.toList
theorem b2w:(D.str "X")=.str (S xS):=ah D.str (a2v _).symm
def gm:SF:=jw (uh SRC.aj DRW.iw (DRW.cu 5) SRC.bw) 7
theorem b2x(r:Nat)(h:r<3)(hh:Hd):∃m:Nat,m<=10/\gIx (.tup [.int 2,.int 4,.int 10]) (bj r) hh=.ok (bj m) hh:=by
 rcases r with _|_|_|r
 .exact⟨2,by omega,aae (j:=0) rfl⟩
 .exact⟨4,by omega,aae (j:=1) rfl⟩
 .exact⟨10,by omega,aae (j:=2) rfl⟩
 .omega
theorem af4{tg:List Nat}(tk:Tongue tg){q:Nat}{rs:List Rule}(k:Bk tg q rs){o:O}{N:Nat}(P:Src o N)(hN:N<=700000000) :
  ∃x o',Dr gm 2 [bkD tg rs] o x o'/\Odd 9000 20 x/\Src o' (N+1000000):=by
 refine NR.to (F:=gm) ?_ rfl (by intro d hd;rw[aI]at hd;subst hd;exact DRW.aig tg rs) P.clo
 have ht:∀c∈tg,c<127:=λc hc=>a6t c (tk.sub c hc);have t6:=tk.hi;have r6:=k.few;unfold gm;rw[dm];show NR (N+1000000) 9000 20 (toR (uh SRC.aj DRW.iw (DRW.cu 5) SRC.bw [some (.ref 0),some (bkD tg rs),none,none,none,none,none] [o]));unfold uh;have co:=P.clo;have nz:sZ (qi (sIt (s2 gIx (sV 1) (sI 1))) t1 (qz SRC.aj DRW.iw (DRW.cu 5) SRC.bw) []) [some (.ref 0),some (bkD tg rs),none,none,none,none,none] [o]=.ok (a2m (rs.map Prod.fst)) [o]:=by
  have cc:=zy (h:=[o]) (ix:=[]) (t:=t1) (fe:=qz SRC.aj DRW.iw (DRW.cu 5) SRC.bw) (τ:=[some (.ref 0),some (bkD tg rs),none,none,none,none,none]) (fi:=sIt (s2 gIx (sV 1) (sI 1))) rlD (λr:Rule=>DRW.nmD r.1) rs (a7t (mz rfl ix1) (adv _ _)) (dh (by omega)) λr hr=>by
   rw[yo];exact mz rfl ix0
  have e:rs.map (λr:Rule=>DRW.nmD r.1)=(rs.map Prod.fst).map DRW.nmD:=by rw[cK];rfl
  rw[e]at cc;refine a5i cc (gf λ_ _=>cj _) ?_
  intro u hu
  rw[aI]at hu;subst hu;exact wz (bE _) co
 refine .tr (jr nz) ?_;obtain⟨x,o1,e1,X,nin,P1⟩:=am8 (ns:=rs.map Prod.fst) (by rw[aE];omega) (λy hy=>by obtain⟨r,hr,rfl⟩:=bF.mp hy;exact k.nm r hr) P (by omega)
 refine .tr (jr (kj (au rfl) (au rfl) (drz e1))) ?_;obtain⟨r,o2,e2,rb,P2⟩:=dw (m:=3) P1 (by omega) (by decide) (by decide)
 obtain⟨m,m10,em⟩:=b2x r (by omega) [o2]
 have b3:SHD.bnd 3=68600:=by decide
 obtain⟨s,o3,ks,ws,ns,es,P3⟩:=DRW.a91 tk.lo tk.hi tk.nd 2 4 (by omega) (by omega) o2 _ m 24 P2 (by rw[b3];omega) (by omega)
 rw[b3]at P3;have nl:MI.wu [.int 24] [o2]=.ok (.ref 1) [o2,.lst [.int 24]]:=ai (dh (by simp))
 have ea:=es 0 1 [o2,.lst [.int 24]] (by decide) rfl rfl
 have tup3':∀h:Hd,sA MI.jl (aa (sI 2) (aa (sI 4) (aa (sI 10) aq))) [some (.ref 0),some (bkD tg rs),some (a2m (rs.map Prod.fst)),some (DRW.nmD x),none,none,none] h=.ok (.tup [.int 2,.int 4,.int 10]) h:=λh=>a3a ckk ckk ckk K16.a95;refine .tr (jr (aoo (cns (au rfl) (cns (mz rfl ix0) (cns ckk (cns (jq (tup3' _) (kj (au rfl) ckk (drz e2)) em) (cns (aoo (cns ckk nlo) nl) nlo))))) ea)) ?_;show NR _ _ _ (toR (gj _ _ [some (.ref 0),some (bkD tg rs),some (a2m (rs.map Prod.fst)),some (DRW.nmD x),some (sd s),none,none] [o3,.lst [.int (24-DRW.pn s)]]))
 generalize hL:O.lst [.int (24-DRW.pn s)]=L
 have cL:wg 0 L:=by rw[<-hL];exact ak (bz _) bx
 obtain⟨sr,o4,e4,sb,P4⟩:=dw (m:=12) P3 (by omega) (by decide) (by decide)
 refine .tr (jr (kj (au rfl) ckk (drz e4))) ?_;show NR _ _ _ (toR (gj _ _ [some (.ref 0),some (bkD tg rs),some (a2m (rs.map Prod.fst)),some (DRW.nmD x),some (sd s),some (bj sr),none] [o4,L]));have xc:∀c∈x,c<127:=λc hc=>ain c (X.az c hc);have X8:=X.hi;have sT:∀b,TT b 4730 6 (sd s):=λb=>(acg ht ks).up (by decide) (by decide)
 have nT:∀b,TT b 82 0 (DRW.nmD x):=λb=>(TT.str (l:=x) (by omega) xc).up (by omega) (a8 _)
 have ch:∀u∈[o4,L],wg 0 u:=λu hu=>by
  simp only[aV,c8,eF]at hu
  rcases hu with rfl|rfl
  .exact P4.clo
  .exact cL
 have c0:MI.sT (s2 hEq (sV 5) (sI 0)) [some (.ref 0),some (bkD tg rs),some (a2m (rs.map Prod.fst)),some (DRW.nmD x),some (sd s),some (bj sr),none] [o4,L]=.ok (decide (sr=0)) [o4,L]:=by
  by_cases z:sr=0
  .rw[aw z];exact tvc rfl (vm (by omega))
  .rw[av z];exact tvc rfl (ux (by omega))
 have c1:MI.sT (s2 hEq (sV 5) (sI 1)) [some (.ref 0),some (bkD tg rs),some (a2m (rs.map Prod.fst)),some (DRW.nmD x),some (sd s),some (bj sr),none] [o4,L]=.ok (decide (sr=1)) [o4,L]:=by
  by_cases z:sr=1
  .rw[aw z];exact tvc rfl (vm (by omega))
  .rw[av z];exact tvc rfl (ux (by omega))
 have c2:MI.sT (s2 hEq (sV 5) (sI 2)) [some (.ref 0),some (bkD tg rs),some (a2m (rs.map Prod.fst)),some (DRW.nmD x),some (sd s),some (bj sr),none] [o4,L]=.ok (decide (sr=2)) [o4,L]:=by
  by_cases z:sr=2
  .rw[aw z];exact tvc rfl (vm (by omega))
  .rw[av z];exact tvc rfl (ux (by omega))
 have z0:sZ (sA MI.wu aq) [some (.ref 0),some (bkD tg rs),some (a2m (rs.map Prod.fst)),some (DRW.nmD x),some (sd s),some (bj sr),none] [o4,L]=.ok (.rol []) [o4,L]:=zds nlo rfl bx ch (by simp)
 have cn:=t2s (au (i:=2) (τ:=[some (.ref 0),some (bkD tg rs),some (a2m (rs.map Prod.fst)),some (DRW.nmD x),some (sd s),some (bj sr),none]) rfl) z0 (a4w true (rs.map Prod.fst) _);rw[ai rfl]at cn;have cond:=K16.arl c0 λ_=>cn
 cases v0:decide (sr=0) && !(rs.map Prod.fst).isEmpty with
 |true =>
  rw[v0]at cond;have ne:(rs.map Prod.fst).isEmpty=false:=by
   rw[af]at v0;simpa using v0.2
  have l0:0<(rs.map Prod.fst).length:=by cases h:rs.map Prod.fst with|nil=>rw[h]at ne;cases ne|cons _ _=>simp
  obtain⟨i,o5,e5,ib,P5⟩:=dw (m:=((rs.map Prod.fst).length:Nat)) P4 (by omega) (by omega) (by rw[aE];omega)
  have hi:i<(rs.map Prod.fst).length:=by omega
  have gx:∀h:Hd,gIx (a2m (rs.map Prod.fst)) (bj i) h=.ok (DRW.nmD (rs.map Prod.fst)[i]) h:=λh=>az1 (by rw[bV,a6 hi];rfl)
  refine .tr (jx (ar (ifT cond) (fu (kj (jq (au rfl) (kj (au rfl) (m9 (au rfl) (by rw[a2w,aE])) (drz e5)) (gx _)) (au rfl) yt)))) ?_
  have nn:DRW.Nm (rs.map Prod.fst)[i]:=by
   obtain⟨r',hr',e'⟩:=bF.mp (bo hi);rw[<-e'];exact k.nm r' hr'
  have n8:=nn.hi;exact NR.of (b:=true) rfl (((TT.str (b:=true) (l:=(rs.map Prod.fst)[i]) (by omega) λc hc=>ain c (nn.az c hc)).two (sT _)).up (by omega) (by omega)) (P5.up (by omega))
 |false =>
  rw[v0]at cond;refine .tr (ifN cond) ?_
  by_cases q1:sr=1
  .rw[aw q1]at c1;obtain⟨i,o5,e5,ib,P5⟩:=dw (m:=95) P4 (by omega) (by decide) (by decide)
   have hi:i<sig.length:=by rw[K16.a8v];omega
   refine .tr (jx (ar (ifT c1) (fu (kj (au rfl) (kj ckk (jq (ax7 (SRC.a3z _)) (kj (au rfl) ckk (drz e5)) (aj1 (dh (by rw[K16.a8v];omega)) (a6 hi))) yt) yt)))) ?_
   exact NR.of (b:=true) rfl (((nT _).two (am2.two (TT.str (l:=[sig[i]]) (by simp) λc hc=>by rw[aI.mp hc];exact a6t _ (bo hi)))).up (by simp) (by omega)) (P5.up (by omega))
  rw[av q1]at c1;refine .tr (ifN c1) ?_
  by_cases q2:sr=2
  .rw[aw q2]at c2;obtain⟨i,o5,e5,ib,P5⟩:=dw (m:=12) P4 (by omega) (by decide) (by decide)
   have xs1:xS.length=1:=by decide +kernel
   have xsc:∀c∈xS,c<127:=by decide +kernel
   have dn:∀(v:Option D),sZ aeq [some (.ref 0),some (bkD tg rs),some (a2m (rs.map Prod.fst)),some (DRW.nmD x),some (sd s),some (bj sr),v] [o4,L]=.ok (.rod [] []) [o4,L]:=λv=>EVT.a0v ch;have ln:∀(v:Option D),sZ (sA MI.wu (aa (sV 3) aq)) [some (.ref 0),some (bkD tg rs),some (a2m (rs.map Prod.fst)),some (DRW.nmD x),some (sd s),some (bj sr),v] [o4,L]=.ok (.rol [DRW.nmD x]) [o4,L]:=λv=>zds (cns (au rfl) nlo) rfl (ak (cj _) bx) ch (by simp)
   have l0:∀(v:Option D),sZ (sA MI.wu aq) [some (.ref 0),some (bkD tg rs),some (a2m (rs.map Prod.fst)),some (DRW.nmD x),some (sd s),some (bj sr),v] [o4,L]=.ok (.rol []) [o4,L]:=λv=>zds nlo rfl bx ch (by simp)
   have l2:∀(v:Option D),sZ (sA MI.wu (aa (sV 3) (aa (sV 4) aq))) [some (.ref 0),some (bkD tg rs),some (a2m (rs.map Prod.fst)),some (DRW.nmD x),some (sd s),some (bj sr),v] [o4,L]=.ok (.rol [DRW.nmD x,sd s]) [o4,L]:=λv=>zds (cns (au rfl) (cns (au rfl) nlo)) rfl (ak (cj _) (ak (SHD.a2d _) bx)) ch (by simp)
   have al:∀y∈([.non,.rol [DRW.nmD x,sd s],.tup [DRW.nmD x,sd s,.int 0]]++[.tup [.str (S (x++xS)),sd s],.tup [sd s,DRW.nmD x],.tup [DRW.nmD x]]++[.tup [.rol [DRW.nmD x],sd s],.tup [.rod [] [],sd s],.rod [] [],.rol []]++[.tup [DRW.nmD x,.tup [.rol [],.str "a"]],.tup [DRW.nmD x,.tup [.rod [] [],sd s]]]:List D),Odd 9000 20 y:=by
    have rod:TT true 5 1 (.rod [] []):=⟨rfl,a8 _,a8 _⟩;have rol0:TT false 3 1 (.rol []):=(TL.nil.rol (by omega))
    refine all_cons ⟨true,(⟨rfl,a8 _,a8 _⟩:TT true 5 0 .non).up (by omega) (by omega)⟩ (all_cons ⟨false,((TL.cons (nT _) (TL.cons (sT _) .nil)).rol (by omega)).up (by omega) (by omega)⟩ (all_cons ⟨false,((TL.cons (nT _) (TL.cons (sT _) (TL.cons (TT.nat (n:=0) (by omega)) .nil))).tup (by omega)).up (by omega) (by omega)⟩
     (all_cons ⟨true,((TT.str (b:=true) (l:=x++xS) (by rw[a9,xs1];omega) ?_).two (sT _)).up (by rw[a9,xs1];omega) (by omega)⟩ (all_cons ⟨true,((sT _).two (nT _)).up (by omega) (by omega)⟩ (all_cons ⟨true,(nT _).one.up (by omega) (by omega)⟩
     (all_cons ⟨false,(((TL.cons (nT _) .nil).rol (by omega)).two (sT _)).up (by omega) (by omega)⟩ (all_cons ⟨true,(rod.two (sT _)).up (by omega) (by omega)⟩ (all_cons ⟨true,rod.up (by omega) (by omega)⟩ (all_cons ⟨false,rol0.up (by omega) (by omega)⟩
     (all_cons ⟨false,((nT _).two (rol0.two (K16.lit (x := "a") (by decide +kernel)))).up (by decide +kernel) (by omega)⟩ (all_cons ⟨true,((nT _).two (rod.two (sT _))).up (by omega) (by omega)⟩ all_nil)))))))))))
    intro c hc
    rcases bG.mp hc with hc|hc
    .exact xc c hc
    .exact xsc c hc
   have len:([.non,.rol [DRW.nmD x,sd s],.tup [DRW.nmD x,sd s,.int 0]]++[.tup [.str (S (x++xS)),sd s],.tup [sd s,DRW.nmD x],.tup [DRW.nmD x]]++[.tup [.rol [DRW.nmD x],sd s],.tup [.rod [] [],sd s],.rod [] [],.rol []]++[.tup [DRW.nmD x,.tup [.rol [],.str "a"]],.tup [DRW.nmD x,.tup [.rod [] [],sd s]]]:List D).length=12:=rfl;have hi:i<([.non,.rol [DRW.nmD x,sd s],.tup [DRW.nmD x,sd s,.int 0]]++[.tup [.str (S (x++xS)),sd s],.tup [sd s,DRW.nmD x],.tup [DRW.nmD x]]++[.tup [.rol [DRW.nmD x],sd s],.tup [.rod [] [],sd s],.rod [] [],.rol []]++[.tup [DRW.nmD x,.tup [.rol [],.str "a"]],.tup [DRW.nmD x,.tup [.rod [] [],sd s]]]:List D).length:=by rw[len];omega
   obtain⟨b,t⟩:=al _ (bo hi);refine .tr (jx (ar (ifT c2) (ar (jr (a3a ckk (l2 _) (a3a (au rfl) (au rfl) ckk K16.a95) K16.a95)) (ar (jr (jq (au rfl) (a3a (kj (mz rfl (by rw[b2w];exact a8p (dh (by rw[xs1];omega)))) (au rfl) yt) (kj (au rfl) (au rfl) yt) (m9 (au rfl) a5s) K16.a95) (PAP.a0e (by simp)))) (ar (jr (jq (au rfl) (EVX.avs (kj (ln _) (au rfl) yt) (kj (dn _) (au rfl) yt) (dn _) (l0 _) SHD.b0j) (PAP.a0e (by simp)))) (ar (jr (jq (au rfl) (kj (kj (au rfl) (kj (l0 _) ckk yt) yt) (kj (au rfl) (kj (dn _) (au rfl) yt) yt) yt) (PAP.a0e (by simp)))) (fu (jq (au rfl) (kj (au rfl) (m9 (au rfl) (K20.len_T _ _)) (drz e5)) (aae (a6 hi)))))))))) ?_
   exact NR.of rfl t (P5.up (by omega))
  .rw[av q2]at c2;refine .tr (ifN c2) ?_;refine .tr (fu (kj (au rfl) (au rfl) yt)) ?_;exact NR.of (b:=true) rfl (((nT _).two (sT _)).up (by omega) (by omega)) (P4.up (by omega))
theorem same{deed:Nat}{t a x:D}{ws:List D}(h:Hd):hNe (outD (res deed t ws a x)) (outD (res deed t ws a x)) h=.ok (.bl false) h:=by
 have p:=arb (deed:=deed) (t:=t) (a:=a) (x:=x) (ws:=ws);unfold hNe;rw[ai ⟨p,p⟩,K16.ae4 60 _ p];rfl
theorem ait{tg:List Nat}{q:Nat}{rs:List Rule}(k:Bk tg q rs)(h:Hd):hNe (bkD tg rs) (bkD tg rs) h=.ok (.bl false) h:=by
 have p:pur 60 (bkD tg rs)=true:=by
  show(true && (pur 59 (.tup (rs.map rlD)) && true))=true;have:(rs.map rlD).all (pur 58)=true:=by
   rw[aO]
   intro x hx
   obtain⟨r,hr,rfl⟩:=bF.mp hx;show((true && (pur 57 (sd r.2) && true))=true);rw[ad5 (by omega) (DRW.aao (k.sh r hr))]
   rfl
  show(true && ((rs.map rlD).all (pur 58) && true))=true;rw[this];rfl
 unfold hNe;rw[ai ⟨p,p⟩,K16.ae4 60 _ p];rfl
theorem ard{deed:Nat}{t a x d:D}{ws:List D}(h:res deed t ws a x=.inr d):∃j,a=bj j/\j+deed<=ws.length/\d=.tup [t,.tup (nw deed j ws x)]/\lk t (nw deed j ws x)=none:=by
 unfold res at h
 split at h
 .rename_i o;obtain⟨j,rfl,hj⟩:=a6y o;rw[a0g]at h
  split at h
  .rename_i e;cases h
   exact⟨j,rfl,hj,rfl,e⟩
  .cases h
 .cases h
theorem azt{b:Bool}{t:Str}{j:Nat}{ws:List D}{x:D}(ht:K16.thB b (.str t)=true)(hw:K16.thL b ws=true)(hx:K16.thB b x=true)(wl:ws.length<=6)(hj:j<=ws.length)(h:lk (.str t) (nw 0 j ws x)=none)(hh:Hd) :
  u5 2 dj [.tup [.str t,.tup (nw 0 j ws x)],bj j] hh=.ok (.tup [.str t,.tup ws]) hh:=by
 have l:(nw 0 j ws x).length=ws.length+1:=by rw[nw0];simp only[a9,aR,ay,aY];omega
 have hn:=am6 (deed:=0) (j:=j) hw hx;have pw:clos 0 (nw 0 j ws x):=iy.mpr λy hy=>(K16.a0w _ y (a8 _) (K16.xr.mp hn y hy)).clo;have b1:=azr (x:=x) (y:=.non) hj;have pt:PAP.Pln (.str t):=K16.a0w _ _ (a8 _) ht;have run:=a6z (t:=.str t) (a:=bj j) (x:=.non) (ws:=nw 0 j ws x) pt pw trivial (by omega) (by rw[a0g];exact aci (b:=b) ht hn rfl (by omega))
 have lk0:lk (.str t) ws=none:=by
  rw[nw0]at h;have:=awp h
  rwa[eM]at this
 have r:res 1 (.str t) (nw 0 j ws x) (bj j) .non=.inr (.tup [.str t,.tup ws]):=by
  unfold res;rw[show okW (nw 0 j ws x).length 1 (bj j)=true from aw (by omega),ai rfl,a0g,b1,lk0]
 rw[r]at run;have ca:=K20.ar2 (show MI.clo 0 (.tup [.str t,.tup (nw 0 j ws x)]) from gh (ak (cj _) (ak (gh pw) bx))) (bz (j:Int))
 have cw:MI.clo 0 (.tup [.str t,.tup ws]):=gh (ak (cj _) (ak (gh (iy.mpr λy hy=>(K16.a0w _ y (a8 _) (K16.xr.mp hw y hy)).clo)) bx));exact a6s ca run (Pu.of rfl ca run (je cw (by simp)) cw)
theorem azu{b:Bool}{t:Str}{j:Nat}{ws:List D}{x:D}(ht:K16.thB b (.str t)=true)(hw:K16.thL b ws=true)(wl:ws.length<=6)(hj:j+2<=ws.length)(h:lk (.str t) (nw 2 j ws x)=none)(hh:Hd) :
  u5 2 ik [.tup [.str t,.tup (nw 2 j ws x)],bj j] hh=.ok (.tup [.str t,.tup ws]) hh:=by
 have l:(nw 2 j ws x).length=ws.length:=by rw[nw2];simp only[a9,aR,aM,bg,aY];omega
 have hn:K16.thL b (nw 2 j ws x)=true:=by
  have:=am6 (b:=b) (deed:=2) (j:=j) (x:=.non) hw rfl
  have e:nw 2 j ws x=nw 2 j ws .non:=by rw[nw2,nw2]
  rw[e];exact this
 have pw:clos 0 (nw 2 j ws x):=iy.mpr λy hy=>(K16.a0w _ y (a8 _) (K16.xr.mp hn y hy)).clo;have b1:=azs (x:=x) (y:=.non) hj;have pt:PAP.Pln (.str t):=K16.a0w _ _ (a8 _) ht;have run:=ae6 (t:=.str t) (a:=bj j) (x:=.non) (ws:=nw 2 j ws x) pt pw trivial (by omega) (by rw[a0g];exact aci (b:=b) ht hn rfl (by omega))
 have lk0:lk (.str t) ws=none:=by
  rw[nw2]at h;have:=ara h
  rwa[<-ao5 hj]at this
 have r:res 2 (.str t) (nw 2 j ws x) (bj j) .non=.inr (.tup [.str t,.tup ws]):=by
  unfold res;rw[show okW (nw 2 j ws x).length 2 (bj j)=true from aw (by omega),ai rfl,a0g,b1,lk0]
 rw[r]at run;have ca:=K20.ar2 (show MI.clo 0 (.tup [.str t,.tup (nw 2 j ws x)]) from gh (ak (cj _) (ak (gh pw) bx))) (bz (j:Int))
 have cw:MI.clo 0 (.tup [.str t,.tup ws]):=gh (ak (cj _) (ak (gh (iy.mpr λy hy=>(K16.a0w _ y (a8 _) (K16.xr.mp hw y hy)).clo)) bx));exact a6s ca run (Pu.of rfl ca run (je cw (by simp)) cw)
abbrev L0:SS:=a5q DRW.jy m7 gm jc jz SRC.j7 SRC.j9 ik dj
theorem ace{b:Bool}{tg:List Nat}{q:Nat}{rs:List Rule}{x a s kp i:D}{deed:Nat}{f8 f9:Option D}{o:O}(k:Bk tg q rs)(ht:K16.thB b (.str (S tg))=true)(hw:K16.thL b (rs.map rlD)=true)(hx:K16.thB b x=true)(pa:PAP.Pln a)(hd:deed<=2) :
  ∃g8 g9,L0 [some s,some (.ref 0),some (bkD tg rs),some x,some kp,some i,some a,some (bj deed),f8,f9] [o]=.nx [some s,some (.ref 0),some (bkD tg rs),some x,some kp,some i,some a,some (bj deed),g8,g9] [o]:=by
 have wl:(rs.map rlD).length<=6:=by rw[aE];exact k.few
 have pt:PAP.Pln (.str (S tg)):=K16.a0w _ _ (a8 _) ht;have pw:clos 0 (rs.map rlD):=iy.mpr λy hy=>(K16.a0w _ y (a8 _) (K16.xr.mp hw y hy)).clo;have px:MI.clo 0 x:=(K16.a0w _ x (a8 _) hx).clo;have dk:K20.Deep 13 (.tup [.str (S tg),.tup (nw deed (toN a) (rs.map rlD) x)]):=aci ht hw hx (by omega)
 have sa:=ar6 (deed:=deed) hd pt pw pa px (by omega) dk
 have du:=awo (deed:=deed) hd pt pw pa px (by omega) dk
 have sm:=same (deed:=deed) (t:=.str (S tg)) (a:=a) (x:=x) (ws:=rs.map rlD);have e0:∀(m:Nat) (v8 v9:Option D),MI.sT (s2 hEq (sV 7) (sC (bj m))) [some s,some (.ref 0),some (bkD tg rs),some x,some kp,some i,some a,some (bj deed),v8,v9] [o]=.ok (decide (deed=m)) [o]:=λm v8 v9=>by
  by_cases z:deed=m
  .rw[aw z];exact tvc rfl (vm (by omega))
  .rw[av z];exact tvc rfl (ux (by omega))
 unfold L0 a5q
 cases hr:res deed (.str (S tg)) (rs.map rlD) a x with
 |inl c =>
  rw[hr]at sa du sm;refine⟨some .non,some (kd5 c),?_⟩;refine ar (wj (alj (EVX.avs (au rfl) (au rfl) (au rfl) (au rfl) (sa _)) rfl)) ?_;refine ar (ifN (t2s (kj (au rfl) (au rfl) yt) (EVX.avs (au rfl) (au rfl) (au rfl) (au rfl) (du _)) (sm _))) ?_;have nn:∀(τ:Sd) (h:Hd),τ[8]? = some (some .non)->MI.sT (s2 a5b (sV 8) (sC .non)) τ h=.ok false h:=λτ h e=>t2s (au e) ckk rfl;refine ar (ifN (a5j (nn _ _ rfl))) ?_;have c0:=e0 0 (some .non) (some (kd5 c));have c2:=e0 2 (some .non) (some (kd5 c))
  refine ar (ifN (c:=zj (MI.sT (s2 hEq (sV 7) (sC (bj 0)))) _) (h1:=[o]) ?_) ?_
  .cases hd0:decide (deed=0) with
   |false=>rw[hd0]at c0;exact a5j c0
   |true=>rw[hd0]at c0;exact a4f c0 (a5j (nn _ _ rfl))
  refine ar (ifF (c:=zj (MI.sT (s2 hEq (sV 7) (sC (bj 2)))) _) (h1:=[o]) ?_) rfl
  cases hd2:decide (deed=2) with
  |false=>rw[hd2]at c2;exact a5j c2
  |true=>rw[hd2]at c2;exact a4f c2 (a5j (nn _ _ rfl))
 |inr d =>
  obtain⟨j,rfl,hj,rfl,lk0⟩:=ard hr;rw[hr]at sa du sm
  generalize hD:D.tup [.str (S tg),.tup (nw deed j (rs.map rlD) x)]=dd at sa du sm
  have pd:PAP.Pln dd:=by rw[<-hD,<-a0g j];exact dk.pln
  refine⟨some dd,some .non,?_⟩;refine ar (wj (alj (EVX.avs (au rfl) (au rfl) (au rfl) (au rfl) (sa _)) rfl)) ?_;refine ar (ifN (t2s (kj (au rfl) (au rfl) yt) (EVX.avs (au rfl) (au rfl) (au rfl) (au rfl) (du _)) (sm _))) ?_;have nn:∀(τ:Sd) (h:Hd),τ[8]? = some (some dd)->MI.sT (s2 a5b (sV 8) (sC .non)) τ h=.ok true h:=λτ h e=>t2s (au e) ckk (by rw[<-hD];rfl)
  have it:PAP.isTup dd=true:=by rw[<-hD];rfl
  have i1:∀h:Hd,gIx dd (.int 1) h=.ok (.tup (nw deed j (rs.map rlD) x)) h:=λh=>by rw[<-hD];exact ix1
  have pn:PAP.Pln (.tup (nw deed j (rs.map rlD) x)):=by
   have hn:=am6 (deed:=deed) (j:=j) hw hx;exact iy.mpr λy hy=>(K16.a0w _ y (a8 _) (K16.xr.mp hn y hy)).clo
  have ist:=PAP.a6q pd (h:=[o]);rw[it]at ist;refine ar (ifN (a4f (nn _ _ rfl) (orF (rm (j5 (kj (au rfl) ckk ist) (di _))) (rm (j5 (kj (mz rfl (i1 _)) ckk (PAP.a6q pn)) (di _)))))) ?_;have c0:=e0 0 (some dd) (some .non);have c2:=e0 2 (some dd) (some .non);refine ar (ifN (c:=zj (MI.sT (s2 hEq (sV 7) (sC (bj 0)))) _) (h1:=[o]) ?_) ?_
  .by_cases z:deed=0
   .rw[aw z]at c0;subst z;have u:=azt ht hw hx wl (by omega) lk0 [o]
    rw[hD]at u;exact a4f c0 (a4f (nn _ _ rfl) (t2s ((anf (cns (au rfl) (cns (au rfl) nlo))).trans u) (au rfl) (ait k _)))
   .rw[av z]at c0;exact a5j c0
  refine ar (ifF (c:=zj (MI.sT (s2 hEq (sV 7) (sC (bj 2)))) _) (h1:=[o]) ?_) rfl
  by_cases z:deed=2
  .rw[aw z]at c2;subst z;have u:=azu (x:=x) ht hw wl (by omega) lk0 [o]
   rw[hD]at u;exact a4f c2 (a4f (nn _ _ rfl) (t2s ((anf (cns (au rfl) (cns (au rfl) nlo))).trans u) (au rfl) (ait k _)))
  .rw[av z]at c2;exact a5j c2
end K19
namespace K19
open L2 MI AT HND EVX
open SRC (Src)
open SHD (Sh sd sds a2c)
open DRW (dw Rule rlD Bk bkD)
open K16 (a4w a2m Odd TT TL ix0 ix1 adv all_cons all_nil acg a6t SB ain ach am2)
def ama:SF:=jw (ahq DRW.jy m7 gm jc jz SRC.j7 SRC.j9 ik dj) 10
def LR(r:R D):Prop:=∃h',r=.ok (.bl true) h'
theorem LR.tr{x y:Fl}(e:x=y)(h:LR (toR y)):LR (toR x):=e ▸ h
theorem azv{b:Bool}{tg:List Nat}{q:Nat}{rs:List Rule}{x s kp i:D}{f6 f7 f8 f9:Option D}{o:O}{N:Nat}(k:Bk tg q rs)(ht:K16.thB b (.str (S tg))=true)(hw:K16.thL b (rs.map rlD)=true)(hx:K16.thB b x=true)(P:Src o N)(hN:N<=800000000) :
  ∃g6 g7 g8 g9 o',a3w DRW.jy m7 gm jc jz SRC.j7 SRC.j9 ik dj [some s,some (.ref 0),some (bkD tg rs),some x,some kp,some i,f6,f7,f8,f9] [o]=.nx [some s,some (.ref 0),some (bkD tg rs),some x,some kp,some i,g6,g7,g8,g9] [o']/\Src o' (N+3):=by
 unfold a3w;obtain⟨a,o1,e1,pa,P1⟩:=am9 (n:=rs.length) (by have:=k.few;omega) P hN
 obtain⟨τ',h',e2,g7,g8,g9,rfl,rfl⟩:=a1a (g:=kN 7) (b:=L0) bj
  (λpre τ h=>∃g7 g8 g9,τ=[some s,some (.ref 0),some (bkD tg rs),some x,some kp,some i,some a,g7,g8,g9]/\h=[o1]) [0,1,2] [some s,some (.ref 0),some (bkD tg rs),some x,some kp,some i,some a,f7,f8,f9] [o1] (by
   rintro pre d post τ h al ⟨g7,g8,g9,rfl,rfl⟩
   have hd:d<=2:=by
    have:d∈[0,1,2]:=by rw[al];simp
    simp only[aV,c8,eF]at this;omega
   obtain⟨v8,v9,e⟩:=ace (s:=s) (kp:=kp) (i:=i) (f8:=g8) (f9:=g9) (o:=o1) k ht hw hx pa hd;exact⟨_,_,rfl,_,_,e,_,_,_,rfl,rfl⟩) ⟨_,_,_,rfl,rfl⟩
 refine⟨some a,g7,g8,g9,o1,?_,P1⟩;refine ar (jr (kj (au rfl) (m9 (mz rfl ix1) (by rw[K20.len_T,aE])) (drz e1))) ?_
 have it:sIt (sA MI.jl (aa (sI 0) (aa (sI 1) (aa (sI 2) aq)))) [some s,some (.ref 0),some (bkD tg rs),some x,some kp,some i,some a,f7,f8,f9] [o1]=.ok ⟨[0,1,2].map bj,λ_=>True⟩ [o1]:=a7t (a3a ckk ckk ckk K16.a95) rfl;show a9w _ _ _ [some s,some (.ref 0),some (bkD tg rs),some x,some kp,some i,some a,f7,f8,f9] [o1]=_;unfold a9w;rw[it];exact e2
theorem aws(ns:List Int):∃h',ama [.scr (ns.map D.int)] []=.ok (.bl true) h':=by
 unfold ama;rw[dm];show LR (toR (ahq DRW.jy m7 gm jc jz SRC.j7 SRC.j9 ik dj [some (.scr (ns.map D.int)),none,none,none,none,none,none,none,none,none] []));unfold ahq;obtain⟨o,P,e⟩:=SRC.ai8 ns [];refine .tr (jr (m9 (au rfl) e)) ?_;obtain⟨tg,o1,tk,e1,P1⟩:=SRC.ai9 P (by omega)
 obtain⟨rs,o2,e2,k,P2⟩:=DRW.aqw tk.lo tk.hi tk.nd (p:=10) (by omega) P1 (by omega)
 refine .tr (jr (a3a (au rfl) (m9 (au rfl) (drz e1)) ckk (drz e2))) ?_;obtain⟨x,o3,e3,⟨b,t⟩,P3⟩:=af4 tk k P2 (by omega)
 refine .tr (jr (kj (au rfl) (au rfl) (drz e3))) ?_;have ht:∀c∈tg,c<127:=λc hc=>a6t c (tk.sub c hc);have t6:=tk.hi;have tt:TT b 62 0 (.str (S tg)):=(TT.str (by omega) ht).up (by omega) (a8 _)
 have rt:=K16.awl (b:=b) ht k;have bT:TT b 2000000 20 (bkD tg rs):=(tt.two (rt.tup (by omega))).up (by omega) (by decide)
 have pT:=bT.two t;obtain⟨p,r⟩:=K16.b0l _ pT.t;have rp:∀h:Hd,abn [.tup [bkD tg rs,x]] h=.ok (.str p.shown) h:=λh=>by
  have nl:p.hasDict=true->noL (.tup [bkD tg rs,x])=true:=λz=>by
   cases b with
   |true=>exact r.nl rfl
   |false=>rw[r.nd rfl]at z;cases z
  have ok:okR (.tup [bkD tg rs,x]) p:=⟨nl,r.sh,by have:=r.dp;have:=pT.q;omega,by have:=r.ln;have:=pT.s;show _<=16777216;omega⟩
  unfold abn;simp only[r.py];rw[ai ok]
 have rpe:∀(τ:Sd) (h:Hd),τ[2]? = some (some (bkD tg rs))->τ[3]? = some (some x)->sA abn (aa (sA MI.jl (aa (sV 2) (aa (sV 3) aq))) aq) τ h=.ok (.str p.shown) h:=λτ h h2 h3=>m9 (kj (au h2) (au h3) yt) (rp h);refine .tr (jr (rpe _ _ rfl rfl)) ?_;obtain⟨τ',h',e4,i,f6,f7,f8,f9,o',rfl,rfl,P4⟩:=a1a (g:=kN 5) (b:=a3w DRW.jy m7 gm jc jz SRC.j7 SRC.j9 ik dj) bj
  (λpre τ h=>∃i f6 f7 f8 f9 o',τ=[some (.scr (ns.map D.int)),some (.ref 0),some (bkD tg rs),some x,some (.str p.shown),i,f6,f7,f8,f9]/\h=[o']/\Src o' (40000000+pre.length*3)) (List.range 4) [some (.scr (ns.map D.int)),some (.ref 0),some (bkD tg rs),some x,some (.str p.shown),none,none,none,none,none] [o3] (by
   rintro pre d post τ h al ⟨i,f6,f7,f8,f9,o',rfl,rfl,P4⟩
   have hl:pre.length<4:=by
    have:=ah List.length al
    simp at this;omega
   obtain⟨g6,g7,g8,g9,o'',e,P5⟩:=azv (s:=.scr (ns.map D.int)) (kp:=.str p.shown) (i:=bj d) (f6:=f6) (f7:=f7) (f8:=f8) (f9:=f9) k tt.t rt.t t.t P4 (by omega)
   exact⟨_,_,rfl,_,_,e,_,_,_,_,_,_,rfl,rfl,P5.up (by rw[a9,ay];omega)⟩) ⟨_,_,_,_,_,_,rfl,rfl,P3.up (by simp)⟩
 refine .tr (a79 (abt (n:=4) ckk (dh (by omega)))) ?_
 refine .tr (ah (λz=>MI.thn z _) e4) ?_;refine .tr (MI.a1e _ _ _) ?_;have eq:hEq (.str p.shown) (.str p.shown) [o']=.ok (.bl true) [o']:=by
  show(if _ then R.ok (D.bl (p.shown == p.shown)) _ else .no)=_
  rw[ai ⟨rfl,rfl⟩,cM]
 exact⟨[o'],ah toR (fu (jq (rpe _ _ rfl rfl) (au rfl) eq))⟩
end K19
namespace L2
open PySem.W PyProof.Rows
theorem acj{K:Frag}{C:Addr}(q:excIn K C [.type "ValueError",.type "Exception",.type "BaseException",.type "object"] "ValueError.__new__" = true):XCls K C:=by
 unfold excIn at q
 split at q
 .rename_i dd cd sl lo
  split at q
  .rename_i C' bm k0 k1 k2 k3 n k5 mo ss;simp only[af,eV,dR]at q;obtain⟨⟨⟨⟨⟨e1,e2⟩,nd⟩,tl⟩,no⟩,ni⟩:=q;subst e1 e2;cases cd
   dsimp only at mo nd no ni;subst mo nd;obtain⟨l⟩:=sl;simp only at ss;subst ss;exact⟨_,_,_,_,bm,_,_,_,_,_,dd,k0,k1,k2,k3,k5,lo,no,ni,tl⟩
  .cases q
 .cases q
end L2
namespace K19
open L2 MI
section
variable{P:Program}{w:World}{K:Fg}{mg:Str->Option Value}{base:Heap}{f:Addr}{fd:FuncData}
theorem a5g{P:Program}{w:World}{K:Fg}{mg:Str->Option Value}{base:Heap}{f:Addr}{k:Nat}{N ps:List Str}{x:Str}{t:Stmt}{b:SS}{fd:FuncData}(Fu:Fun K x x t f fd)(m:MD P w K mg base f k N ps x t b):FnOk P w K mg base CX0 (k+1) f fd ps (a0h K ps.length (jw b N.length)):=aum Fu m.1 m.2
theorem d_6{f_6:Addr}{e_6:FuncData}(Fu_6:Fun K "parts_count" "parts_count" (top 11) f_6 e_6)(mk_6:mg "parts_count" = some (.ref f_6))(kp_6:PySem.W.keepIn K (.ref f_6)=true)(bd_6:Binds K e_6 ["thing","deep","most"] []){a_9:Addr}{d_9:FuncData}(D_9:Dn P w K mg base 1 "inner" ["shape"] (a0h K 1 (K16.jf)) a_9 d_9){a_7:Addr}{d_7:FuncData}(D_7:Dn P w K mg base 4 "is_form" ["thing"] (a0h K 1 (K16.qt)) a_7 d_7):∀n:Nat,Dn P w K mg base (n+4) "parts_count" ["thing","deep","most"] (a0h K 3 (K16.ie n)) f_6 e_6:=by
 intro n
 induction n with
 |zero=>exact⟨aer (ps:=["thing","deep","most"]),mk_6,kp_6,bd_6⟩
 |succ n ih =>
  have e:n+1+4=n+4+1:=by omega
  rw[e];have s_parts_count:=ih;exact⟨a5g Fu_6 (m_6 (dk D_9 (by omega)) (dk D_7 (by omega)) (dk s_parts_count (by omega))),mk_6,kp_6,bd_6⟩
theorem axk{f_10:Addr}{e_10:FuncData}(Fu_10:Fun K "weight" "weight" (top 15) f_10 e_10)(mk_10:mg "weight" = some (.ref f_10))(kp_10:PySem.W.keepIn K (.ref f_10)=true)(bd_10:Binds K e_10 ["shape"] [])(M:Nm mg){a_9:Addr}{d_9:FuncData}(D_9:Dn P w K mg base 1 "inner" ["shape"] (a0h K 1 (K16.jf)) a_9 d_9):∀n:Nat,Dn P w K mg base (n+1) "weight" ["shape"] (a0h K 1 (K16.jj n)) f_10 e_10:=by
 intro n
 induction n with
 |zero=>exact⟨aer (ps:=["shape"]),mk_10,kp_10,bd_10⟩
 |succ n ih =>
  have e:n+1+1=n+1+1:=by omega
  rw[e];have s_weight:=ih;exact⟨a5g Fu_10 (b1i M (dk D_9 (by omega)) s_weight (by omega)),mk_10,kp_10,bd_10⟩
theorem b2y{f_11:Addr}{e_11:FuncData}(Fu_11:Fun K "parts_of" "parts_of" (top 16) f_11 e_11)(mk_11:mg "parts_of" = some (.ref f_11))(kp_11:PySem.W.keepIn K (.ref f_11)=true)(bd_11:Binds K e_11 ["shape"] [])(M:Nm mg){a_9:Addr}{d_9:FuncData}(D_9:Dn P w K mg base 1 "inner" ["shape"] (a0h K 1 (K16.jf)) a_9 d_9):∀n:Nat,Dn P w K mg base (n+1) "parts_of" ["shape"] (a0h K 1 (K16.iz n)) f_11 e_11:=by
 intro n
 induction n with
 |zero=>exact⟨aer (ps:=["shape"]),mk_11,kp_11,bd_11⟩
 |succ n ih =>
  have e:n+1+1=n+1+1:=by omega
  rw[e];have s_parts_of:=ih;exact⟨a5g Fu_11 (b1j M (dk D_9 (by omega)) (dk s_parts_of (by omega))),mk_11,kp_11,bd_11⟩
theorem azw{f_27:Addr}{e_27:FuncData}(Fu_27:Fun K "_law_weight" "_law_weight" (top 42) f_27 e_27)(mk_27:mg "_law_weight" = some (.ref f_27))(kp_27:PySem.W.keepIn K (.ref f_27)=true)(bd_27:Binds K e_27 ["_law_shape_here"] [])(M:Nm mg):∀n:Nat,Dn P w K mg base (n+0) "_law_weight" ["_law_shape_here"] (a0h K 1 (DRW.b8 n)) f_27 e_27:=by
 intro n
 induction n with
 |zero=>exact⟨aer (ps:=["_law_shape_here"]),mk_27,kp_27,bd_27⟩
 |succ n ih =>
  have e:n+1+0=n+0+1:=by omega
  rw[e];have s_law_weight:=ih;exact⟨a5g Fu_27 (b1z M (dk s_law_weight (by omega))),mk_27,kp_27,bd_27⟩
theorem b2z{f_28:Addr}{e_28:FuncData}(Fu_28:Fun K "_law_shape" "_law_shape" (top 43) f_28 e_28)(mk_28:mg "_law_shape" = some (.ref f_28))(kp_28:PySem.W.keepIn K (.ref f_28)=true)(bd_28:Binds K e_28 ["_law_left","_law_tongue_here","_law_deep","_law_purse","_law_room"] [])(M:Nm mg){a_23:Addr}{d_23:FuncData}(D_23:Dn P w K mg base 1 "_law_draw" ["_law_left","_law_many"] (a0h K 2 (SRC.aj)) a_23 d_23){a_26:Addr}{d_26:FuncData}(D_26:Dn P w K mg base 2 "_law_ones" ["_law_left","_law_tongue_here"] (a0h K 2 (DRW.lu)) a_26 d_26){a_27:Addr}{azw:FuncData}(D_27:Dn P w K mg base 5 "_law_weight" ["_law_shape_here"] (a0h K 1 (DRW.b8 5)) a_27 azw):∀n:Nat,Dn P w K mg base (n+5) "_law_shape" ["_law_left","_law_tongue_here","_law_deep","_law_purse","_law_room"] (a0h K 5 (DRW.cu n)) f_28 e_28:=by
 intro n
 induction n with
 |zero=>exact⟨aer (ps:=["_law_left","_law_tongue_here","_law_deep","_law_purse","_law_room"]),mk_28,kp_28,bd_28⟩
 |succ n ih =>
  have e:n+1+5=n+5+1:=by omega
  rw[e];have s_law_shape:=ih;exact⟨a5g Fu_28 (b23 M (dk D_23 (by omega)) (dk D_26 (by omega)) (dk s_law_shape (by omega)) (dk D_27 (by omega))),mk_28,kp_28,bd_28⟩
theorem b30{f_33:Addr}{e_33:FuncData}(Fu_33:Fun K "_law_counted" "_law_counted" (top 48) f_33 e_33)(mk_33:mg "_law_counted" = some (.ref f_33))(kp_33:PySem.W.keepIn K (.ref f_33)=true)(bd_33:Binds K e_33 ["_law_thing","_law_tongue_here","_law_deep"] [])(M:Nm mg){a_32:Addr}{d_32:FuncData}(D_32:Dn P w K mg base 1 "_law_is_signs" ["_law_thing","_law_tongue_here"] (a0h K 2 (K16.bh)) a_32 d_32){a_31:Addr}{d_31:FuncData}(D_31:Dn P w K mg base 1 "_law_row" ["_law_found"] (a0h K 1 (K16.iu)) a_31 d_31):∀n:Nat,Dn P w K mg base (n+1) "_law_counted" ["_law_thing","_law_tongue_here","_law_deep"] (a0h K 3 (K16.c7 n)) f_33 e_33:=by
 intro n
 induction n with
 |zero=>exact⟨aer (ps:=["_law_thing","_law_tongue_here","_law_deep"]),mk_33,kp_33,bd_33⟩
 |succ n ih =>
  have e:n+1+1=n+1+1:=by omega
  rw[e];have s_law_counted:=ih;exact⟨a5g Fu_33 (b2a M (dk s_law_counted (by omega)) (dk D_32 (by omega)) (dk D_31 (by omega))),mk_33,kp_33,bd_33⟩
end
noncomputable def amb(K:Fg):Sp:=λvs H Q _=>∃(a:Addr) (ns:List Int),vs=[.ref a]/\SqF K H a (ns.map V.int)/\ns.length<=63/\∀H',Q (.bl true) H'
theorem aap{K:Fg}{U:List Addr}{H:Hp}:∀ns:List Int,Reps K U H (ns.map V.int) (ns.map D.int)
 |[]=>.nil
 |n::ns=>.cons (.int n) (aap ns)
theorem awt{K:Fg}(vs:List V)(H:Hp)(Q:VK)(E:XK)(h:amb K vs H Q E):a0h K 1 K19.ama vs H Q E:=by
 obtain⟨a,ns,rfl,hS,hl,q⟩:=h;obtain⟨h',e⟩:=K19.aws ns;refine⟨rfl,[],[.scr (ns.map D.int)],[],.cons (.scr hS (aap ns)) .nil,⟨dD,rfl,λi a o z=>by simp at z⟩,?_⟩
 rw[e]
 intro U' H' b g r hr
 cases r
 exact q H'
theorem awu{K:Fg}{H:Hp}{a:Addr}{vs:List V}(hO:Only H)(hS:SqL K H a vs):SqF K H a vs:=by
 rcases hS with r|r
 .rcases r with r|⟨o,r⟩
  .rcases hO a with z|⟨o,xs,z⟩<;>rw[z]at r<;>cases r
  .exact .inl ⟨o,r⟩
 .exact .inr (.inr r)
abbrev fo(x:Str)(t:Stmt)(kV dc pm:Value)(an:Option Addr)(cd ct:Value):=PySem.W.fnOf x x (a2r t) (qd t) (fj t) .none kV dc pm an cd ct
def Df(K:Fg)(f:Addr)(nm:Str)(i:Nat):Prop:=∃oc od kV dc pm an cd ct sl,PySem.W.nsIn K mainGlobals nm=some (some (.ref f))/\K.lookup f=some ⟨oc,od,.func (fo nm (top i) kV dc pm an cd ct),sl⟩/\PySem.W.codeIn K cd nm=true/\PySem.W.keepIn K (.ref f)=true
theorem df{K:Fg}{f:Addr}{nm:Str}{i:Nat}(d:Df K f nm i):∃e,PySem.W.nsIn K mainGlobals nm=some (some (.ref f))/\Fun K nm nm (top i) f e:=by
 obtain⟨_,_,_,_,_,_,_,_,_,a,l,c,k⟩:=d;exact⟨_,a,asy l c k⟩
theorem wk{P:Program}{w:World}{K:Fg}{mg:Str->Option Value}{base h:Heap}{f:Addr}{nm:Str}{i k:Nat}{F:SF}{N ps:List Str}{b:SS}(d:Df K f nm i)(X:K.In h)(G:h.Ns mainGlobals mg)(m:MD P w K mg base f k N ps nm (top i) b)
  (h:∀(kV doc pm:Value) (an:Option Addr) (cdv ct:Value) (us:List Value),us.length=ps.length->bindArgs (PySem.W.fnOf nm nm (a2r (top i)) (qd (top i)) (fj (top i)) .none kV doc pm an cdv ct) ⟨us,[]⟩=pure (ps.zip us)) (e:F=jw b N.length:=by rfl) :
  ∃fd,Dn P w K mg base (k+1) nm ps (a0h K ps.length F) f fd:=by
 obtain⟨_,a,Fu⟩:=df d;rw[e];exact⟨_,a5g Fu m,bA X G a,Fu.kp,Fu.binds h⟩
local macro_rules|`(tactic|walk_at "b") => `(tactic|(intro _ _ _ _ _ _ us hl;first|(apply b0a hl;intro _;exact rfl)|(apply b0b hl;intro _ _;exact rfl)|(apply b0c hl;intro _ _ _;exact rfl)|(apply b0d hl;intro _ _ _ _;exact rfl)|(apply b0e hl;intro _ _ _ _ _;exact rfl)|(apply b1h hl;intro _ _ _ _ _ _;exact rfl)|(apply len0 hl;exact rfl)))
theorem awv{l:PySem.W.OpenLaw}{w:World}{K:Fg}{h:Heap}{mg:Str->Option Value}{fa f1 f2 f3 f4 f5 f6 f7 f8 f9 f10 f11 f12 f13 f14 f15 f16 f17 f18 f19 f20 f21 f22 f23 f24 f25 f26 f27 f28 f29 f30 f31 f32 f33 f34 f35 f36 f37 f38 f39 f40:Addr}(X:K.In h)(G:h.Ns mainGlobals mg)(hfa:mg "law" = some (.ref fa))
  (d1:Df K f1 "is_number" 1)
  (d2:Df K f2 "is_number_from" 2)
  (d3:Df K f3 "is_row" 3)
  (d4:Df K f4 "is_sign" 4)
  (d5:Df K f5 "is_unlike_signs" 5)
  (d6:Df K f6 "is_shape" 10)
  (d7:Df K f7 "parts_count" 11)
  (d8:Df K f8 "is_form" 12)
  (d9:Df K f9 "are_times" 13)
  (d10:Df K f10 "inner" 14)
  (d11:Df K f11 "weight" 15)
  (d12:Df K f12 "parts_of" 16)
  (d13:Df K f13 "is_tongue" 25)
  (d14:Df K f14 "is_text" 26)
  (d15:Df K f15 "looked_book" 28)
  (d16:Df K f16 "is_book" 29)
  (d17:Df K f17 "is_rule" 30)
  (d18:Df K f18 "is_name" 31)
  (d19:Df K f19 "with_rule" 32)
  (d20:Df K f20 "without_rule" 33)
  (d21:Df K f21 "exchanged" 34)
  (d22:Df K f22 "rules_with_place" 35)
  (d23:Df K f23 "_law_source" 37)
  (d24:Df K f24 "_law_draw" 38)
  (d25:Df K f25 "_law_signs" 39)
  (d26:Df K f26 "_law_tongue" 40)
  (d27:Df K f27 "_law_ones" 41)
  (d28:Df K f28 "_law_weight" 42)
  (d29:Df K f29 "_law_shape" 43)
  (d30:Df K f30 "_law_name" 44)
  (d31:Df K f31 "_law_book" 45)
  (d32:Df K f32 "_law_row" 46)
  (d33:Df K f33 "_law_is_signs" 47)
  (d34:Df K f34 "_law_counted" 48)
  (d35:Df K f35 "_law_is_book" 49)
  (d36:Df K f36 "_law_place" 50)
  (d37:Df K f37 "_law_new_rule" 51)
  (d38:Df K f38 "_law_said" 52)
  (d39:Df K f39 "_law_due" 53)
  (d40:Df K f40 "law" 54)
  {y_NoBook y_TooHeavy y_NoPlace y_ReachError y_NoShape y_TooMany:Addr}
  (xg_NoBook:PySem.W.nsIn K mainGlobals "NoBook" = some (some (.ref y_NoBook)))
  (xg_TooHeavy:PySem.W.nsIn K mainGlobals "TooHeavy" = some (some (.ref y_TooHeavy)))
  (xg_NoPlace:PySem.W.nsIn K mainGlobals "NoPlace" = some (some (.ref y_NoPlace)))
  (xg_ReachError:PySem.W.nsIn K mainGlobals "ReachError" = some (some (.ref y_ReachError)))
  (xg_NoShape:PySem.W.nsIn K mainGlobals "NoShape" = some (some (.ref y_NoShape)))
  (xg_TooMany:PySem.W.nsIn K mainGlobals "TooMany" = some (some (.ref y_TooMany)))
  (xc_NoBook:XCls K y_NoBook)
  (xk_NoBook:XKit K y_NoBook)
  (xe_NoBook_ReachError:PySem.W.exmOne K (.ref y_NoBook) (.ref y_ReachError)=some true)
  (xi_NoBook_TooHeavy:PySem.W.kitOne K (.ref y_NoBook) (.ref y_TooHeavy)=some false)
  (xi_NoBook_NoBook:PySem.W.kitOne K (.ref y_NoBook) (.ref y_NoBook)=some true)
  (xi_NoBook_NoPlace:PySem.W.kitOne K (.ref y_NoBook) (.ref y_NoPlace)=some false)
  (xi_NoBook_ValueError:PySem.W.kitOne K (.ref y_NoBook) (.type "ValueError")=some true)
  (xi_NoBook_NoShape_TooMany:PySem.W.kitAny K (.ref y_NoBook) [.ref y_NoShape,.ref y_TooMany]=some false)
  (xc_NoPlace:XCls K y_NoPlace)
  (xk_NoPlace:XKit K y_NoPlace)
  (xe_NoPlace_ReachError:PySem.W.exmOne K (.ref y_NoPlace) (.ref y_ReachError)=some true)
  (xi_NoPlace_TooHeavy:PySem.W.kitOne K (.ref y_NoPlace) (.ref y_TooHeavy)=some false)
  (xi_NoPlace_NoBook:PySem.W.kitOne K (.ref y_NoPlace) (.ref y_NoBook)=some false)
  (xi_NoPlace_NoPlace:PySem.W.kitOne K (.ref y_NoPlace) (.ref y_NoPlace)=some true)
  (xi_NoPlace_ValueError:PySem.W.kitOne K (.ref y_NoPlace) (.type "ValueError")=some true)
  (xi_NoPlace_NoShape_TooMany:PySem.W.kitAny K (.ref y_NoPlace) [.ref y_NoShape,.ref y_TooMany]=some false)
  (xc_TooHeavy:XCls K y_TooHeavy)
  (xk_TooHeavy:XKit K y_TooHeavy)
  (xe_TooHeavy_ReachError:PySem.W.exmOne K (.ref y_TooHeavy) (.ref y_ReachError)=some true)
  (xi_TooHeavy_TooHeavy:PySem.W.kitOne K (.ref y_TooHeavy) (.ref y_TooHeavy)=some true)
  (xi_TooHeavy_NoBook:PySem.W.kitOne K (.ref y_TooHeavy) (.ref y_NoBook)=some false)
  (xi_TooHeavy_NoPlace:PySem.W.kitOne K (.ref y_TooHeavy) (.ref y_NoPlace)=some false)
  (xi_TooHeavy_ValueError:PySem.W.kitOne K (.ref y_TooHeavy) (.type "ValueError")=some true)
  (xi_TooHeavy_NoShape_TooMany:PySem.W.kitAny K (.ref y_TooHeavy) [.ref y_NoShape,.ref y_TooMany]=some false)
  (z1:PySem.W.nsIn K mainGlobals "ValueError" = some none) (z2:PySem.W.nsIn K mainGlobals "abs" = some none) (z3:PySem.W.nsIn K mainGlobals "all" = some none) (z4:PySem.W.nsIn K mainGlobals "bool" = some none) (z5:PySem.W.nsIn K mainGlobals "int" = some none) (z6:PySem.W.nsIn K mainGlobals "isinstance" = some none) (z7:PySem.W.nsIn K mainGlobals "len" = some none) (z8:PySem.W.nsIn K mainGlobals "list" = some none) (z9:PySem.W.nsIn K mainGlobals "max" = some none) (z10:PySem.W.nsIn K mainGlobals "ord" = some none) (z11:PySem.W.nsIn K mainGlobals "range" = some none) (z12:PySem.W.nsIn K mainGlobals "repr" = some none) (z13:PySem.W.nsIn K mainGlobals "set" = some none) (z14:PySem.W.nsIn K mainGlobals "str" = some none) (z15:PySem.W.nsIn K mainGlobals "sum" = some none) (z16:PySem.W.nsIn K mainGlobals "tuple" = some none) {ty1:Tok} (y1:PySem.W.nsIn K mainGlobals "DEEPEST" = some (some (.int 5 ty1))) {ty2:Tok} (y2:PySem.W.nsIn K mainGlobals "HEAVIEST" = some (some (.int 10 ty2))) {ty3:Tok} (y3:PySem.W.nsIn K mainGlobals "MOST_PARTS" = some (some (.int 24 ty3))) :
  ∃fd:FuncData,(∀(s:Shared) (v:Value),BindsTo s fd ⟨[v],[]⟩ [("_law_script",v)])/\∀base:Heap,K.In base->base.Ns mainGlobals mg->FnOk l.prog w K mg base CX0 17 fa fd ["_law_script"] (amb K):=by
 obtain⟨_,a7,F7⟩:=df d7;have b7:=F7.binds (ps:=["thing","deep","most"]) (by walk_at "b")
 obtain⟨_,a11,F11⟩:=df d11;have b11:=F11.binds (ps:=["shape"]) (by walk_at "b")
 obtain⟨_,a12,F12⟩:=df d12;have b12:=F12.binds (ps:=["shape"]) (by walk_at "b")
 obtain⟨_,a15,F15⟩:=df d15;have b15:=F15.binds (ps:=["thing"]) (by walk_at "b")
 obtain⟨_,a19,F19⟩:=df d19;have b19:=F19.binds (ps:=["book","at","rule"]) (by walk_at "b")
 obtain⟨_,a20,F20⟩:=df d20;have b20:=F20.binds (ps:=["book","at"]) (by walk_at "b")
 obtain⟨_,a21,F21⟩:=df d21;have b21:=F21.binds (ps:=["book","at"]) (by walk_at "b")
 obtain⟨_,a22,F22⟩:=df d22;have b22:=F22.binds (ps:=["book","at","wanted"]) (by walk_at "b")
 obtain⟨_,a28,F28⟩:=df d28;have b28:=F28.binds (ps:=["_law_shape_here"]) (by walk_at "b")
 obtain⟨_,a29,F29⟩:=df d29;have b29:=F29.binds (ps:=["_law_left","_law_tongue_here","_law_deep","_law_purse","_law_room"]) (by walk_at "b")
 obtain⟨_,a34,F34⟩:=df d34;have b34:=F34.binds (ps:=["_law_thing","_law_tongue_here","_law_deep"]) (by walk_at "b")
 obtain⟨_,a40,F40⟩:=df d40;have e:=hfa.symm.trans (bA X G a40);cases e
 obtain⟨oc,od,kV40,dc40,pm40,an40,cd40,ct40,sl,rfl,lk,hc⟩:=id F40.ex;have b40:=F40.binds (ps:=["_law_script"]) (by walk_at "b")
 have M:Nm mg:=⟨bp X G z1,bp X G z2,bp X G z3,bp X G z4,bp X G z5,bp X G z6,bp X G z7,bp X G z8,bp X G z9,bp X G z10,bp X G z11,bp X G z12,bp X G z13,bp X G z14,bp X G z15,bp X G z16⟩;have C:Cn mg:=⟨⟨_,bA X G y1⟩,⟨_,bA X G y2⟩,⟨_,bA X G y3⟩⟩
 have Z:Xn K mg y_NoBook y_TooHeavy y_NoPlace y_ReachError y_NoShape y_TooMany:=⟨bA X G xg_NoBook,bA X G xg_TooHeavy,bA X G xg_NoPlace,bA X G xg_ReachError,bA X G xg_NoShape,bA X G xg_TooMany,xg_NoBook,xc_NoBook,xk_NoBook,xe_NoBook_ReachError,xi_NoBook_TooHeavy,xi_NoBook_NoBook,xi_NoBook_NoPlace,xi_NoBook_ValueError,xi_NoBook_NoShape_TooMany,xg_NoPlace,xc_NoPlace,xk_NoPlace,xe_NoPlace_ReachError,xi_NoPlace_TooHeavy,xi_NoPlace_NoBook,xi_NoPlace_NoPlace,xi_NoPlace_ValueError,xi_NoPlace_NoShape_TooMany,xg_TooHeavy,xc_TooHeavy,xk_TooHeavy,xe_TooHeavy_ReachError,xi_TooHeavy_TooHeavy,xi_TooHeavy_NoBook,xi_TooHeavy_NoPlace,xi_TooHeavy_ValueError,xi_TooHeavy_NoShape_TooMany⟩
 refine⟨PySem.W.fnOf "law" "law" (a2r (top 54)) (qd (top 54)) (fj (top 54)) .none kV40 dc40 pm40 an40 cd40 ct40,λs v=>.of_eq rfl,λbase _ _=>?_⟩;obtain⟨_,D_0⟩:=wk (F:=K20.m5) (k:=0) d1 X G (m_0 M) (by walk_at "b")
 obtain⟨_,D_1⟩:=wk (F:=K20.jg) (k:=1) d2 X G (m_1 D_0 (by decide)) (by walk_at "b")
 obtain⟨_,D_2⟩:=wk (F:=K20.gq) (k:=0) d3 X G (m_2 M) (by walk_at "b")
 obtain⟨_,D_3⟩:=wk (F:=K20.ul) (k:=0) d4 X G (m_3 M) (by walk_at "b")
 obtain⟨_,D_4⟩:=wk (F:=K20.ig) (k:=1) d5 X G (m_4 M (dk D_3)) (by walk_at "b")
 obtain⟨_,D_9⟩:=wk (F:=K16.jf) (k:=0) d10 X G (m_9 ) (by walk_at "b")
 obtain⟨_,D_8⟩:=wk (F:=K16.ut) (k:=2) d9 X G (m_8 (dk D_1)) (by walk_at "b")
 obtain⟨_,D_7⟩:=wk (F:=K16.qt) (k:=3) d8 X G (m_7 M (dk D_8) D_2 (by decide) (dk D_4)) (by walk_at "b")
 have D_6:=d_6 (P:=l.prog) (w:=w) (base:=base) F7 (bA X G a7) F7.kp b7 D_9 D_7 6;obtain⟨_,D_5⟩:=wk (F:=K16.lr) (k:=10) d6 X G (m_5 C (dk D_6)) (by walk_at "b")
 have D_10:=axk (P:=l.prog) (w:=w) (base:=base) F11 (bA X G a11) F11.kp b11 M D_9 5;have D_11:=b2y (P:=l.prog) (w:=w) (base:=base) F12 (bA X G a12) F12.kp b12 M D_9 5;obtain⟨_,D_12⟩:=wk (F:=K16.jt) (k:=2) d13 X G (b1k (dk D_4)) (by walk_at "b")
 obtain⟨_,D_13⟩:=wk (F:=K16.mq) (k:=0) d14 X G (b1l M) (by walk_at "b")
 obtain⟨_,D_17⟩:=wk (F:=K16.nu) (k:=0) d18 X G (b1p M) (by walk_at "b")
 obtain⟨_,D_16⟩:=wk (F:=K16.o7) (k:=11) d17 X G (b1o M (dk D_17) D_2 (by decide) (dk D_5) (dk D_13) (dk D_11)) (by walk_at "b")
 obtain⟨_,D_15⟩:=wk (F:=K16.o8) (k:=12) d16 X G (b1n M D_2 (by decide) (dk D_16) (dk D_12)) (by walk_at "b")
 have D_14:DnX l.prog w K mg base 14 "looked_book" ["thing"] (spX K mg 1 (K16.dz)) _ _:=⟨a6j F15 avk (b1m M C Z D_15 (by decide) D_10 (by decide)),bA X G a15,F15.kp,b15⟩
 have D_21:DnX l.prog w K mg base 2 "rules_with_place" ["book","at","wanted"] (spX K mg 3 (K19.bu)) _ _:=⟨a6j F22 avo (b1t M Z D_0 (by decide) D_2 (by decide)),bA X G a22,F22.kp,b22⟩
 have D_18:DnX l.prog w K mg base 15 "with_rule" ["book","at","rule"] (spX K mg 3 (K19.qu)) _ _:=⟨a6j F19 avl (b1q D_14 (by decide) D_21 (by decide)),bA X G a19,F19.kp,b19⟩
 have D_19:DnX l.prog w K mg base 15 "without_rule" ["book","at"] (spX K mg 2 (K19.dj)) _ _:=⟨a6j F20 avm (b1r D_14 (by decide) D_21 (by decide)),bA X G a20,F20.kp,b20⟩
 have D_20:DnX l.prog w K mg base 15 "exchanged" ["book","at"] (spX K mg 2 (K19.ik)) _ _:=⟨a6j F21 avn (b1s D_14 (by decide) D_21 (by decide)),bA X G a21,F21.kp,b21⟩
 obtain⟨_,D_22⟩:=wk (F:=SRC.j7) (k:=0) d23 X G (b1u M) (by walk_at "b")
 obtain⟨_,D_23⟩:=wk (F:=SRC.aj) (k:=0) d24 X G (b1v M) (by walk_at "b")
 obtain⟨_,D_24⟩:=wk (F:=SRC.bw) (k:=0) d25 X G (b1w ) (by walk_at "b")
 obtain⟨_,D_25⟩:=wk (F:=SRC.j9) (k:=1) d26 X G (b1x M (dk D_23) D_24 (by decide)) (by walk_at "b")
 obtain⟨_,D_26⟩:=wk (F:=DRW.lu) (k:=1) d27 X G (b1y M (dk D_23)) (by walk_at "b")
 have D_27:=azw (P:=l.prog) (w:=w) (base:=base) F28 (bA X G a28) F28.kp b28 M 5;have D_28:=b2z (P:=l.prog) (w:=w) (base:=base) F29 (bA X G a29) F29.kp b29 M D_23 D_26 D_27 5;obtain⟨_,D_29⟩:=wk (F:=DRW.iw) (k:=1) d30 X G (b24 M (dk D_23)) (by walk_at "b")
 obtain⟨_,D_30⟩:=wk (F:=DRW.jy) (k:=10) d31 X G (b25 M (dk D_23) (dk D_29) (dk D_28) (dk D_27)) (by walk_at "b")
 obtain⟨_,D_31⟩:=wk (F:=K16.iu) (k:=0) d32 X G (b26 M) (by walk_at "b")
 obtain⟨_,D_32⟩:=wk (F:=K16.bh) (k:=0) d33 X G (b27 M) (by walk_at "b")
 have D_33:=b30 (P:=l.prog) (w:=w) (base:=base) F34 (bA X G a34) F34.kp b34 M D_32 D_31 6;obtain⟨_,D_34⟩:=wk (F:=K16.j4) (k:=7) d35 X G (b2b M (dk D_33) (dk D_32) D_24 (by decide)) (by walk_at "b")
 obtain⟨_,D_35⟩:=wk (F:=K19.jc) (k:=1) d36 X G (b2c (dk D_23)) (by walk_at "b")
 obtain⟨_,D_36⟩:=wk (F:=K19.gm) (k:=10) d37 X G (b2d M (dk D_23) (dk D_29) (dk D_28) D_24 (by decide)) (by walk_at "b")
 obtain⟨_,D_37⟩:=wk (F:=K19.jz) (k:=15) d38 X G (b2e M Z D_20 (by decide) D_18 (by decide) D_19 (by decide)) (by walk_at "b")
 obtain⟨_,D_38⟩:=wk (F:=K19.m7) (k:=8) d39 X G (b2f M (dk D_34) (dk D_31) (dk D_27)) (by walk_at "b")
 have D_39:Dn l.prog w K mg base 17 "law" ["_law_script"] (a0h K 1 (K19.ama)) _ _:=⟨a5g F40 (b2g M (dk D_30) (dk D_38) (dk D_36) (dk D_35) (dk D_37) D_22 (by decide) (dk D_25) D_20 (by decide) D_19 (by decide)),bA X G a40,F40.kp,b40⟩
 exact D_39.ok.imp awt
theorem walk{l:PySem.W.OpenLaw}{q:Program}{loose:List Str}{XP:(Str->Option Value)->Heap->Prop}{YP:World->Heap->Prop}{d:DefRec}{K:Params->Fg}(hn:l.most=some 63)(hdf:d.params.defaults=[])
  (hY:∀(w:World) (h:Heap),YP w h->(K w.params).In h)
  (F:∀(w:World) (mg:Str->Option Value) (fa:Addr) (h:Heap),(K w.params).In h->h.Ns mainGlobals mg->mg d.name=some (.ref fa)->
   ∃fd:FuncData,(∀(s:Shared) (u:Value),BindsTo s fd ⟨[u],[]⟩ [("_law_script",u)])/\∀base:Heap,(K w.params).In base->base.Ns mainGlobals mg->FnOk l.prog w (K w.params) mg base CX0 17 fa fd ["_law_script"] (amb (K w.params))) :
  PySem.W.WalkO q loose XP YP l.row.toRowW d [] (λf vs=>PySem.call f vs) :=
 L2.aos (n:=63) (k:=17) (x := "_law_script") (CX:=λ_=>CX0) (sp:=λw=>amb (K w.params)) hn (by decide) hdf ⟨rfl,by decide,by decide,rfl⟩ hY F (λ_ _ a ns hl hO hS=>⟨a,ns,rfl,awu hO hS,hl,λ_=>rfl⟩) λ_ _ _ _ _ z=>z
end K19
open PySem.W PyProof.Rows
local macro_rules|`(tactic|o_head $H) => `(tactic|refine PySem.W.holds_open (q:=K19.hq) (loose:=K19.hl) (Xt:=fun _=>true) (XP:=fun _ _=>True) (Yf:=Hook.obs $H) (Ya:=Hook.val $H) (YP:=Hook.says $H) (N:=20000) ?hl (Hook.of $H) (Hook.keeps $H) (fun _ _=>trivial) (fun _ _ _ _ _=>trivial) (by rfl) (by rfl) (by rfl) (fun _ _=>recFacts_nil rfl) (by rfl) (by assumption) (by decide +kernel) ⟨rfl,rfl,rfl,rfl,rfl,by decide +kernel⟩ ?hw ?hc)
set_option maxRecDepth 100000 in
set_option maxHeartbeats 0 in
theorem PySem.Challenge.cw_nearreach_k19_books_changed_holds : PySem.Challenge.rw_nearreach_k19_books_changed.Holds := by
 w_on;refine holds_law K19.said fun said=>?_;o_head (kHook K19.A.heap_1 [2,3,15,17,18,20,21,22,24,25,27,28,29,31,32,34,35,36,38,39,41,42,43,46,47,48,50,51,53,54,55,57,58,60,61,62,64,65,67,68,69,71,72,74,75,76,78,79,81,82,83,86,87,88,90,91,93,94,95,102,103,104,105,108,115,116,117,120,127,128,129,132,139,140,141,144,151,152,153,156,163,164,165,168,170,171,173,174,175,178,179,180,183,184,185,188,189,190,193,194,195,198,199,200,202,203,205,206,207,209,210,212,213,214,216,217,219,220,221,223,224,226,227,228,231,232,233,235,236,238,239,240,242,243,245,246,247,249,250,252,253,254,256,257,259,260,261,264,265,266,268,269,271,272,273,276,277,278,280,281,283,284,285,287,288,290,291,292,295,296,297,300,301,302,305,306,307,309,310,312,313,314,317,318,319,321,322,324,325,326,329,330,331,333,334,336,337] (fun _=>by kernel_rfl))
 (case hw=>w_witness2)
 (case hl=>exact K19.hlok)
 k_fill
 refine K19.walk (l:=PySem.Challenge.rw_nearreach_k19_books_changed) rfl rfl (fun w h Y=>PySem.W.kIn_of Y) ?F
 case F =>
  intro w mg fa h KX G hmg
  refine' K19.awv KX G hmg ?_ ?_ ?_ ?_ ?_ ?_ ?_ ?_ ?_ ?_ ?_ ?_ ?_ ?_ ?_ ?_ ?_ ?_ ?_ ?_ ?_ ?_ ?_ ?_ ?_ ?_ ?_ ?_ ?_ ?_ ?_ ?_ ?_ ?_ ?_ ?_ ?_ ?_ ?_ ?_ ?xg_NoBook ?xg_TooHeavy ?xg_NoPlace ?xg_ReachError ?xg_NoShape ?xg_TooMany ?xc_NoBook ?xk_NoBook ?xe_NoBook_ReachError ?xi_NoBook_TooHeavy ?xi_NoBook_NoBook ?xi_NoBook_NoPlace ?xi_NoBook_ValueError ?xi_NoBook_NoShape_TooMany ?xc_NoPlace ?xk_NoPlace ?xe_NoPlace_ReachError ?xi_NoPlace_TooHeavy ?xi_NoPlace_NoBook ?xi_NoPlace_NoPlace ?xi_NoPlace_ValueError ?xi_NoPlace_NoShape_TooMany ?xc_TooHeavy ?xk_TooHeavy ?xe_TooHeavy_ReachError ?xi_TooHeavy_TooHeavy ?xi_TooHeavy_NoBook ?xi_TooHeavy_NoPlace ?xi_TooHeavy_ValueError ?xi_TooHeavy_NoShape_TooMany ?_ ?_ ?_ ?_ ?_ ?_ ?_ ?_ ?_ ?_ ?_ ?_ ?_ ?_ ?_ ?_ ?y1 ?y2 ?y3
  all_goals first | k_is | exact ⟨_,_,_,_,_,_,_,_,_,by k_is,by k_is,by k_is,by k_is⟩ | skip
  (case xc_NoBook=>exact L2.acj (by kernel_rfl))
  (case xk_NoBook=>constructor<;>first | k_is | kernel_rfl)
  (case xe_NoBook_ReachError=>kernel_rfl)
  (case xi_NoBook_TooHeavy=>kernel_rfl)
  (case xi_NoBook_NoBook=>kernel_rfl)
  (case xi_NoBook_NoPlace=>kernel_rfl)
  (case xi_NoBook_ValueError=>kernel_rfl)
  (case xi_NoBook_NoShape_TooMany=>kernel_rfl)
  (case xc_NoPlace=>exact L2.acj (by kernel_rfl))
  (case xk_NoPlace=>constructor<;>first | k_is | kernel_rfl)
  (case xe_NoPlace_ReachError=>kernel_rfl)
  (case xi_NoPlace_TooHeavy=>kernel_rfl)
  (case xi_NoPlace_NoBook=>kernel_rfl)
  (case xi_NoPlace_NoPlace=>kernel_rfl)
  (case xi_NoPlace_ValueError=>kernel_rfl)
  (case xi_NoPlace_NoShape_TooMany=>kernel_rfl)
  (case xc_TooHeavy=>exact L2.acj (by kernel_rfl))
  (case xk_TooHeavy=>constructor<;>first | k_is | kernel_rfl)
  (case xe_TooHeavy_ReachError=>kernel_rfl)
  (case xi_TooHeavy_TooHeavy=>kernel_rfl)
  (case xi_TooHeavy_NoBook=>kernel_rfl)
  (case xi_TooHeavy_NoPlace=>kernel_rfl)
  (case xi_TooHeavy_ValueError=>kernel_rfl)
  (case xi_TooHeavy_NoShape_TooMany=>kernel_rfl)
  try (case y1=>k_is)
  try (case y2=>k_is)
  try (case y3=>k_is)
