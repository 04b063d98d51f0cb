import PyProof.Rows.All
import Wide.All
import OpenK.AllK
import Wide.FinOn
import Lean
import PyProof.EqAt
import PyProof.EqKinds
import PyProof.TupleCall
import PyProof.ListStr
import PyProof.TupleOfStr
import PyProof.ConsumeWalk
import PyProof.SliceStr2
import PyProof.CompUse
import PyProof.Rows.SetFrom
import PyProof.SetRoads
import PyProof.StrLawsIn
import PyProof.Rows.StrIndexOr
import PyProof.Rows.StrJoin2
import PyProof.Rows.SumAny
import PyProof.Draws
import PyProof.ZipIter
import PyProof.EnumMake
import PyProof.ListRange
import PyProof.Rows.Range3
import KE.KStateDown
import PyProof.ReprRoads
import PyProof.CallFns
import KE.KTryDeep
import PyProof.ExcBaseAll.ValueError
import KE.KTryMore
import KE.KIsNot
import PyProof.ExcAttrAll.ValueError
import PyProof.NsDelKeeps
import PyProof.WalkInts
import PyProof.SeqI3
import Wide.Txt2
import PyProof.Rows.SortWalk
import PyProof.WalksMore
import PyProof.Rows.FStr
import KE.KIntText
import PySem.Challenge.RW_nearreach_k78_shapes_written
set_option Elab.async false
set_option linter.all false
set_option maxRecDepth 100000
set_option maxHeartbeats 4000000
section
open PySem PySem.W PyProof.Rows
theorem K78.said:PySem.Challenge.rw_nearreach_k78_shapes_written.wellSaid=true:=by kernel_rfl
noncomputable def K78.hq:Program:=view PySem.Challenge.pw_nearreach_k78_shapes_written [PySem.Challenge.pw_nearreach_k78_shapes_written.main.body.length - 1]
noncomputable def K78.hl:List Str:=PySem.Challenge.pw_nearreach_k78_shapes_written.boundNames
local macro_rules | `(tactic| o_head $H) => `(tactic| refine PySem.W.holds_open (q:=K78.hq) (loose:=K78.hl) (Xt:=fun _=>true) (XP:=fun _ _=>True) (Yf:=Hook.obs $H) (Ya:=Hook.val $H) (YP:=Hook.says $H) (N:=20000) ?hl (Hook.of $H) (Hook.keeps $H) (fun _ _=>trivial) (fun _ _ _ _ _=>trivial) (by rfl) (by rfl) (by rfl) (fun _ _=>recFacts_nil rfl) (by rfl) (by assumption) (by decide +kernel) ⟨rfl,rfl,rfl,rfl,rfl,by decide +kernel⟩ ?hw ?hc)
set_option maxRecDepth 100000 in
set_option maxHeartbeats 0 in
theorem K78.A (hyp:∀ p:Prop,p):PySem.Challenge.rw_nearreach_k78_shapes_written.Holds:=by
 w_on;refine holds_law K78.said fun said=>?_;k_head
 all_goals exact hyp _
set_option maxRecDepth 100000 in
set_option maxHeartbeats 0 in
theorem K78.hlok:LeftO PySem.Challenge.rw_nearreach_k78_shapes_written.row.prog K78.hq K78.hl (fun _=>true) (Hook.obs (kHook K78.A.heap_1 [2,3,15,22,23,24,25,28,35,36,37,40,42,43,45,46,47,49,50,52,53,54,56,57,59,60,61,63,64,66,67,68,71,72,73,74,77,78,79,81,82,84,85,86,88,89,91,92,93,95,96,98,99,100,102,103,105,106,107,109,110,112,113,114,116,117,119,120,121,123,124,126,127,128,129,132,133,134,136,137,139,140,141,143,144,146,147,148,150,151,153,154,155,157,158,160,161,162,164,165,167,168,169,171,172,174,175,176,178,179,181,182,183,185,186,188,189,190,192,193,195,196,197,199,200,202,203,204,206,207,209,210,211,213,214,216,217,218,220,221,223,224,225,228,229,230,233,234,235,238,239,240,242,243,245,246,247,249,250,252,253] (fun _=>by kernel_rfl))) (Hook.val (kHook K78.A.heap_1 [2,3,15,22,23,24,25,28,35,36,37,40,42,43,45,46,47,49,50,52,53,54,56,57,59,60,61,63,64,66,67,68,71,72,73,74,77,78,79,81,82,84,85,86,88,89,91,92,93,95,96,98,99,100,102,103,105,106,107,109,110,112,113,114,116,117,119,120,121,123,124,126,127,128,129,132,133,134,136,137,139,140,141,143,144,146,147,148,150,151,153,154,155,157,158,160,161,162,164,165,167,168,169,171,172,174,175,176,178,179,181,182,183,185,186,188,189,190,192,193,195,196,197,199,200,202,203,204,206,207,209,210,211,213,214,216,217,218,220,221,223,224,225,228,229,230,233,234,235,238,239,240,242,243,245,246,247,249,250,252,253] (fun _=>by kernel_rfl))) 20000:=by
 refine LeftO.of_split "special-get-raises" ?_;intro w;kernel_rfl
end
abbrev Fg:=PySem.W.Frag
def a6:=@PySem.Heap.get?_push_of_some
def a7:=@List.getElem?_eq_some_iff
def a8:=@PySem.wpAny_bind
def a9:=@List.length_append
def ae:=@List.getElem?_eq_getElem
def af:=@List.length_cons
def ag:=@List.size_toArray
def ah:=@congrArg
def ai:=@Nat.le_refl
def ar:=@List.getElem?_append_right
def av:=@Eq.trans
def aw:=@Option.map_eq_some_iff
def ax:=@PySem.Heap.lt_size
def ay:=@PySem.Heap.get?_push_size
def aE:=@PySem.wpAny_pure
def aI:=@List.getElem?_append_left
def aJ:=@if_pos
def aK:=@List.length_nil
def aL:=@List.mem_singleton
def aM:=@List.length_singleton
def aN:=@Nat.lt_of_lt_of_le
def aO:=@List.mem_cons
def aP:=@decide_eq_false
def aQ:=@decide_eq_true
def aR:=@List.mem_cons_of_mem
def aS:=@List.length_map
def aT:=@List.map_cons
def aU:=@List.not_mem_nil
def aV:=@List.mem_cons_self
def aW:=@Bool.false_ne_true
def aX:=@PySem.W.mg_none_of
def aY:=@if_neg
def aZ:=@List.mem_of_getElem?
def b6:=@Option.some.inj
def b9:=@List.flatten_cons
def ba:=@PyProof.Rows.slot_tuple_getitem
def bb:=@List.mem_append_right
def bg:=@Int.eq_ofNat_of_zero_le
def bo:=@PySem.W.mg_of
def bp:=@List.append_nil
def bq:=@List.nodup_append
def br:=@Nat.ne_of_lt
def bt:=@PySem.W.kia_one
def bA:=@PySem.mem_of_lookup
def bB:=@List.getElem?_of_mem
def bC:=@List.take_of_length_le
def bD:=@List.drop_eq_nil_of_le
def bE:=@List.length_take
def bF:=@List.length_drop
def bG:=@PySem.Heap.size_push
def bH:=@PySem.wpAny_callSpecial?_slot
def bI:=@Bool.and_eq_true
def bJ:=@List.all_eq_true
def bK:=@List.getElem?_set_self
def bL:=@PySem.wpAny_truthy_bool
def bM:=@List.getElem?_map
def bN:=@List.replicate_succ
def bO:=@PySem.F.slot_str_join
def bP:=@PySem.F.type_str_join
def bQ:=@PySem.wpAny_mono
def bR:=@Nat.lt_irrefl
def bS:=@PySem.wpAny_newObj_type
def bT:=@beq_eq_false_iff_ne
def bU:=@List.mem_append
def bV:=@PySem.F.slot_tuple_iterator_next
def bW:=@beq_self_eq_true
def bX:=@Nat.le_trans
def bY:=@or_false
def bZ:=@Bool.false_eq_true
def cb:=@PySem.wpAny_field
def cf:=@Nat.zero_le
def cq:=@List.pairwise_iff_getElem
def cv:=@List.drop_drop
def cy:=@List.getElem?_set_ne
def cA:=@PySem.wpAny_passesOwn
def cB:=@not_true_eq_false
def cC:=@List.getElem?_replicate
def cD:=@List.getElem?_cons_zero
def cE:=@PySem.wpAny_call_entry
def cF:=@List.getElem_mem
def cG:=@PySem.wpAny_Call_Name_kw
def cH:=@PySem.wpAny_setField_rec
def cI:=@PyProof.Rows.callWith_type1
def cJ:=@List.nodup_cons
def cK:=@List.length_replicate
def cL:=@List.find?_cons
def cM:=@List.nil_append
def cN:=@PySem.F.called_set
def cO:=@decide_false
def cP:=@PySem.PassesOwn.never
def cQ:=@PySem.wpAny_holding
def cR:=@List.all_cons
def cT:=@List.append_assoc
def cU:=@List.getD_eq_getElem?_getD
def cV:=@PySem.wpAny_seqItems
def cW:=@List.map_nil
def cX:=@PySem.F.slot_list_append
def cY:=@PySem.F.type_list_append
def cZ:=@PyProof.Rows.F.plain_set_update_loop
def da:=@List.getElem?_take
def de:=@Int.emod_lt_of_pos
def dn:=@PySem.Heap.get?_update_other
def dv:=@Int.toNat_natCast
def dA:=@if_true
def dB:=@List.length_range
def dC:=@decide_true
def dD:=@List.nodup_nil
def dE:=@List.all_map
def dF:=@Nat.min_eq_right
def dG:=@List.cons_append
def dH:=@List.mem_append_left
def dI:=@List.any_cons
def dJ:=@PySem.F.args_tuple_iterator_next_1
def dM:=@List.filterMap_cons
def dO:=@Array.length_toList
def dP:=@PySem.wpAny_execs_nil
def dQ:=@List.foldl_cons
def dR:=@Nat.min_eq_left
def dS:=@PySem.F.entry_tuple_iterator_next
def dU:=@PySem.F.slot_zip_next
def dW:=@Int.emod_nonneg
def dX:=@PySem.StrLaws.glued_eq_join
def dY:=@PySem.codeAny_mono
def dZ:=@if_false
def e8:=@List.mem_map
def e9:=@Nat.succ_pos
def ef:=@List.set_cons_zero
def eg:=@List.map_map
def eh:=@List.getElem?_zip_eq_some
def ei:=@List.drop_eq_getElem_cons
def el:=@Array.getElem?_eq_getElem
def et:=@PySem.wpAny_pyIter_list
def eu:=@PySem.W.kitx_dict
def eA:=@Option.isSome_iff_exists
def eB:=@PySem.F.args_tuple_add_2
def eC:=@PySem.F.entry_tuple_add
def eD:=@List.getElem?_cons_succ
def eE:=@Bool.not_true
def eF:=@PySem.noFill_tuple_add
def eG:=@List.lookup_cons
def eI:=@Nat.lt_succ_self
def eJ:=@Ne.symm
def eK:=@List.of_mem_zip
def eL:=@PySem.seqIndex_neg
def eM:=@List.length_set
def eN:=@List.map_append
def eO:=@PySem.codeAny_builtin
def eP:=@Nat.succ.inj
def eQ:=@List.take_zero
def eR:=@Bool.not_false
def eS:=@PySem.sizeLine_eq
def eT:=@PySem.seqIndex_of
def eU:=@Nat.le_zero
def eV:=@List.take_nil
def eW:=@Bool.true_and
def eX:=@beq_iff_eq
open PySem PySem.Spec
namespace L2
open PyProof.Rows
abbrev Key:=Sum Int Str
def a8w:Key->Value->Bool
 |.inl k,v=>Value.isInt k v
 |.inr x,v=>Value.isStrOf x v
def arf(w:World):Key->Int
 |.inl k=>hashInt k
 |.inr x=>hashStr w x
theorem jq:∀{k:Key} {v:Value},a8w k v=true->(∃i t,k=Sum.inl i/\v=Value.int i t)\/(∃x t,k=Sum.inr x/\v=Value.str x t)
 |.inl i,v,h=>by
  obtain⟨t,e⟩:=Value.isInt_shape (k:=i) (v:=v) h;exact .inl ⟨i,t,rfl,e⟩
 |.inr x,v,h=>by
  obtain⟨t,e⟩:=Value.isStrOf_shape (x:=x) (v:=v) h;exact .inr ⟨x,t,rfl,e⟩
theorem a9q(i:Int)(t:Tok):a8w (.inl i) (.int i t)=true:=by simp[a8w,Value.isInt]
theorem a9r(x:Str)(t:Tok):a8w (.inr x) (.str x t)=true:=by simp[a8w,Value.isStrOf]
theorem ajb(a b:Int):decide ((Sum.inl a:Key)=Sum.inl b)=(a == b):=by
 by_cases e:a=b
 ·subst e;simp
 ·have h:¬ (Sum.inl a:Key)=Sum.inl b:=λq=>e (Sum.inl.inj q);rw[aP h];exact(bT.mpr e).symm
theorem ajc(a b:Str):decide ((Sum.inr a:Key)=Sum.inr b)=decide (a=b):=by
 by_cases e:a=b
 ·subst e;simp
 ·have h:¬ (Sum.inr a:Key)=Sum.inr b:=λq=>e (Sum.inr.inj q);rw[aP h,aP e]
theorem ajd(a:Int)(b:Str):decide ((Sum.inl a:Key)=Sum.inr b)=false:=aP (λq=>nomatch q)
theorem aje(a:Str)(b:Int):decide ((Sum.inr a:Key)=Sum.inl b)=false:=aP (λq=>nomatch q)
def ye(prog:Program)(w:World):PySem.KeyKind prog w Key where
 is:=a8w
 hash:=arf w
 inj:=λv a b ha hb=>by
  rcases jq ha with⟨i,t,rfl,rfl⟩|⟨x,t,rfl,rfl⟩
  ·rcases jq hb with⟨j,u,rfl,e⟩|⟨y,u,rfl,e⟩
   ·injection e with e1 _;rw[e1]
   ·exact nomatch e
  ·rcases jq hb with⟨j,u,rfl,e⟩|⟨y,u,rfl,e⟩
   ·exact nomatch e
   ·injection e with e1 _;rw[e1]
 byValue:=λk v h=>by
  rcases jq h with⟨i,t,rfl,rfl⟩|⟨x,t,rfl,rfl⟩<;>rfl
 pyHash:=λhv h=>by
  rcases jq hv with⟨i,t,rfl,rfl⟩|⟨x,t,rfl,rfl⟩
  ·exact wpAny_pyHash_int h
  ·exact wpAny_pyHash_str h
 eqBool:=λhu hv h=>by
  rcases jq hu with⟨i,t,rfl,rfl⟩|⟨x,t,rfl,rfl⟩
  ·rcases jq hv with⟨j,u,rfl,rfl⟩|⟨y,u,rfl,rfl⟩
   ·rw[ajb]at h;exact wpAny_eqBool_int h
   ·rw[ajd]at h;exact SeqAt.EqAt.int_str i t y u _ _ _ _ h
  ·rcases jq hv with⟨j,u,rfl,rfl⟩|⟨y,u,rfl,rfl⟩
   ·rw[aje]at h;exact SeqAt.EqAt.str_int x t j u _ _ _ _ h
   ·rw[ajc]at h;exact wpAny_eqBool_str h
 «strs»:=λk x t v h=>by
  rcases jq h with⟨i,u,rfl,e⟩|⟨y,u,rfl,e⟩
  ·exact nomatch e
  ·injection e with e1 _
   subst e1
   cases v<;>rfl
theorem a71(prog:Program)(w:World)(i:Int)(t:Tok):(ye prog w).is (.inl i) (.int i t)=true:=a9q i t
theorem mj(prog:Program)(w:World)(x:Str)(t:Tok):(ye prog w).is (.inr x) (.str x t)=true:=a9r x t
inductive V where
 |non|bl (b:Bool)|int (i:Int)|str (x:Str)|byt (b:Array UInt8)|flt (b:UInt64)|ref (a:Addr)|ty (n:String)
 deriving DecidableEq
def RelV:V->Value->Prop
 |.non,u=>u=Value.none
 |.bl b,u=>u=Value.bool b
 |.int i,u=>∃t,u=Value.int i t
 |.str x,u=>∃t,u=Value.str x t
 |.byt b,u=>∃t,u=Value.bytes b t
 |.flt b,u=>∃t,u=Value.float b t
 |.ref a,u=>u=Value.ref a
 |.ty n,u=>u=Value.type n
abbrev Vals:List V->List Value->Prop:=Paired RelV
theorem Vals.length(r:Vals xs us):xs.length=us.length:=Paired.length r
theorem Vals.get:∀{xs:List V} {us:List Value} {i:Nat} {x:V},Vals xs us->xs[i]? = some x->∃u,us[i]? = some u/\RelV x u
 |_,_,_,_,.nil,e=>by simp at e
 |_,_,0,_,.cons r _,e=>by simp at e;subst e;exact⟨_,rfl,r⟩
 |_,_,i+1,x,.cons _ t,e=>by
  obtain⟨u,h1,h2⟩:=Vals.get (i:=i) (x:=x) t (by simpa using e)
  exact⟨u,by simpa using h1,h2⟩
theorem Vals.set(r:RelV x u):∀{xs:List V} {us:List Value} (i:Nat),Vals xs us->Vals (xs.set i x) (us.set i u)
 |_,_,_,.nil=>.nil
 |_,_,0,.cons _ t=>.cons r t
 |_,_,i+1,.cons q t=>.cons q (Vals.set r i t)
theorem Vals.append:∀{xs ys:List V} {us ws:List Value},Vals xs us->Vals ys ws->Vals (xs++ys) (us++ws)
 |_,_,_,_,.nil,s=>s
 |_,_,_,_,.cons r t,s=>.cons r (Vals.append t s)
theorem Vals.take:∀{xs:List V} {us:List Value} (n:Nat),Vals xs us->Vals (xs.take n) (us.take n)
 |_,_,0,_=>.nil
 |_,_,_+1,.nil=>.nil
 |_,_,n+1,.cons r t=>.cons r (Vals.take n t)
theorem Vals.drop:∀{xs:List V} {us:List Value} (n:Nat),Vals xs us->Vals (xs.drop n) (us.drop n)
 |_,_,0,r=>r
 |_,_,_+1,.nil=>.nil
 |_,_,n+1,.cons _ t=>Vals.drop n t
def RelO:Option V->Option Value->Prop
 |some v,some u=>RelV v u
 |none,none=>True
 |_,_=>False
def KV{κ:Type}:List (κ×V)->List (κ×Value)->Prop:=Paired λ(p:κ×V) (q:κ×Value)=>p.1=q.1/\RelV p.2 q.2
def kV:Key->V
 |.inl i=>.int i
 |.inr x=>.str x
def TupD(h:Heap)(a:Addr)(aC:Array Value):Prop:=∃o,h.get? a=some o/\(o.cls=.type "tuple"/\o.dict=none)/\∃n,o.data=.seq aC n
theorem TupD.r{h:Heap}{a:Addr}{i:Array Value}(x:TupD h a i):IsTup h a i:=let ⟨o,e,c,d⟩:=x; ⟨o,e,c.1,d⟩
theorem TupD.new(h:Heap)(i:Array Value):TupD (h.push {cls:=.type "tuple",data:=.seq i}) h.objs.size i:=⟨_,ay _ rfl,⟨rfl,rfl⟩,_,rfl⟩
inductive HO where
 |lst (xs:List V)
 |tup (xs:List V)
 |dK (kvs:List (Key×V))|dT (kvs:List (List Key×V))
 |set (S:Int->Bool) (n:Nat)
 |ins (C dx:Addr) (fs:List (Str×V))
 |own (x:Addr)
 |xd (fs:List (Str×V))
 |met (f x:Addr)
 |rng (lo hi:Int)
 |frz (o:Obj) (u:HO)
 |tbl (ps:Array Value)
 |ext (φ:Heap->Prop)
abbrev Hp:=Addr->Option HO
def upd(H:Hp)(a:Addr)(o:HO):Hp:=λb=>if b=a then some o else H b
theorem qp:upd H a o a=some o:=by unfold upd;rw[aJ rfl]
theorem j6(h:b≠a):upd H a o b=H b:=by unfold upd;rw[aY h]
theorem ie{H:Hp}{a b:Addr}{o:HO}(h:H a=some o)(h':H b=none):a≠b:=by
 intro e;subst e;rw[h]at h';cases h'
section
variable(P:Program)(w:World)
def ObjOk(H:Hp)(h:Heap)(a:Addr):HO->Prop
 |.lst xs=>xs.length<=sizeLine/\∃(its:List Value) (n:Nat),Vals xs its/\h.get? a=some {cls:=.type "list",data:=.seq its.toArray n}
 |.tup xs=>xs.length<=sizeLine/\∃its:List Value,Vals xs its/\TupD h a its.toArray
 |.dK kvs=>kvs.length<=sizeLine/\(a == sysModules)=false/\∃vs,KV kvs vs/\h.DictOf (ye P w) a vs
 | .dT kvs=>kvs.length<=sizeLine/\(a == sysModules)=false/\∃xs:List (List Key×Addr×Value),
   Paired (λ(p:List Key×V) (q:List Key×Addr×Value)=>p.1=q.1/\H q.2.1=some (.tup (p.1.map kV))/\RelV p.2 q.2.2) kvs xs /\
   ∃o es ep,h.get? a=some o/\o.ExactDict/\o.data=.dict es ep/\es.toList=xs.map (entryOfKey (tupleKind (ye P w)))/\(xs.map (·.1)).Nodup
 |.set S n=>h.SetOf (intKind P w) a S n
 | .ins C dx fs=>H dx=some (.own a)/\fs.length<=1000/\dx≠a/\h.get? a=some (PySem.W.instObj C dx) /\
   ∃mA,h.Ns1 dx mA/\(∀f,RelO (fs.lookup f) (mA f))/\PySem.Within mA (fs.map (·.1))
 |.own _=>∃o,h.get? a=some o
 |.xd fs=>∃mA,h.Ns1 a mA/\∀f,RelO (fs.lookup f) (mA f)
 |.rng lo hi=>∃t u v,h.get? a=some {cls:=.type "range",data:=.fields #[.int lo t,.int hi u,.int 1 v]}
 |.frz o u=>h.get? a=some o/\ObjOk H h a u
 |.tbl ps=>h.get? a=some {cls:=.none,data:=.fields ps}
 |.met f x=>h.get? a=some (PySem.W.methodObj (.ref f) (.ref x))
 |.ext φ=>φ h/\(∃o,h.get? a=some o)/\∀h1 h2:Heap,φ h1->(∀o,h1.get? a=some o->h2.get? a=some o)->φ h2
def HOk(H:Hp)(h:Heap):Prop:=∀a o,H a=some o->ObjOk P w H h a o
end
section
variable{P:Program}{w:World}{H H':Hp}{h h':Heap}{a:Addr}{o:HO}
theorem ObjOk.lt(x:ObjOk P w H h a o):a<h.objs.size:=by
 cases o with
 |lst xs=>obtain⟨_,_,_,_,e⟩:=x;exact ax e
 |tup xs=>obtain⟨_,_,_,p⟩:=x;exact p.r.lt
 |dK kvs=>obtain⟨_,_,_,_,o,_,_,e,_⟩:=x;exact ax e
 |dT kvs=>obtain⟨_,_,_,_,o,_,_,e,_⟩:=x;exact ax e
 |set S n=>obtain⟨o,_,_,_,e,_⟩:=x;exact ax e
 |ins C dx fs=>obtain⟨_,_,_,e,_⟩:=x;exact ax e
 |own y=>obtain⟨_,e⟩:=x;exact ax e
 |xd fs=>obtain⟨_,⟨_,_,_,e,_⟩,_⟩:=x;exact ax e
 |rng lo hi=>obtain⟨_,_,_,e⟩:=x;exact ax e
 |frz ob u=>obtain⟨e,_⟩:=x;exact ax e
 |tbl ps=>exact ax (show h.get? a=some _ from x)
 |met f y=>exact ax (show h.get? a=some _ from x)
 |ext φ=>obtain⟨_,⟨_,e⟩,_⟩:=x;exact ax e
theorem Paired.mapP{α β:Type}{F G:α->β->Prop}:∀{l₁:List α} {l₂:List β},Paired F l₁ l₂->(∀a b,F a b->G a b)->Paired G l₁ l₂
 |_,_,.nil,_=>.nil
 |_,_,.cons r t,f=>.cons (f _ _ r) (Paired.mapP t f)
theorem ObjOk.stay(x:ObjOk P w H h a o)(k:∀b u,(b=a\/H b=some (.own a))->h.get? b=some u->h'.get? b=some u)
  (ho:∀b,H b=some (.own a)->H' b=some (.own a)) (ht:∀b xs,H b=some (.tup xs)->H' b=some (.tup xs)):ObjOk P w H' h' a o:=by
 induction o with
 |lst xs=>obtain⟨z,its,n,r,e⟩:=x;exact⟨z,its,n,r,k _ _ (.inl rfl) e⟩
 |tup xs=>obtain⟨z,its,r,ob,e,c⟩:=x;exact⟨z,its,r,ob,k _ _ (.inl rfl) e,c⟩
 |dK kvs=>obtain⟨z,y,vs,r,ob,es,ep,e,c⟩:=x;exact⟨z,y,vs,r,ob,es,ep,k _ _ (.inl rfl) e,c⟩
 |dT kvs =>
  obtain⟨z,y,xs,r,ob,es,ep,e,c⟩:=x;exact⟨z,y,xs,Paired.mapP r λp q z=>⟨z.1,ht _ _ z.2.1,z.2.2⟩,ob,es,ep,k _ _ (.inl rfl) e,c⟩
 |set S n=>obtain⟨ob,es,ep,t,e,c⟩:=x;exact⟨ob,es,ep,t,k _ _ (.inl rfl) e,c⟩
 |ins C dx fs =>
  obtain⟨d,z,ne,e,mA,⟨od,es,ep,e2,c⟩,r⟩:=x;exact⟨ho _ d,z,ne,k _ _ (.inl rfl) e,mA,⟨od,es,ep,k _ _ (.inr d) e2,c⟩,r⟩
 |own y=>obtain⟨ob,e⟩:=x;exact⟨ob,k _ _ (.inl rfl) e⟩
 |xd fs=>obtain⟨mA,⟨od,es,ep,e,c⟩,r⟩:=x;exact⟨mA,⟨od,es,ep,k _ _ (.inl rfl) e,c⟩,r⟩
 |rng lo hi=>obtain⟨t,u,v,e⟩:=x;exact⟨t,u,v,k _ _ (.inl rfl) e⟩
 |frz ob u ih=>obtain⟨e,q⟩:=x;exact⟨k _ _ (.inl rfl) e,ih q⟩
 |tbl ps =>
  have e:h.get? a=some {cls:=.none,data:=.fields ps}:=x;show h'.get? a=some {cls:=.none,data:=.fields ps};exact k a _ (.inl rfl) e
 |met f y =>
  have e:h.get? a=some (PySem.W.methodObj (.ref f) (.ref y)):=x;show h'.get? a=some (PySem.W.methodObj (.ref f) (.ref y));exact k a _ (.inl rfl) e
 |ext φ=>obtain⟨p,⟨o,e⟩,st⟩:=x;exact⟨st _ _ p λo q=>k _ _ (.inl rfl) q,⟨o,k _ _ (.inl rfl) e⟩,st⟩
theorem HOk.lt(x:HOk P w H h)(e:H a=some o):a<h.objs.size:=(x a o e).lt
theorem HOk.fresh(x:HOk P w H h)(e:h.objs.size<=a):H a=none:=by
 cases q:H a with
 |none=>rfl
 |some u=>exact absurd (aN (x.lt q) e) (bR _)
theorem HOk.kept(x:HOk P w H h)(k:∀b u,h.get? b=some u->h'.get? b=some u):HOk P w H h':=λa o e =>
 (x a o e).stay (λb u _ q=>k b u q) (λ_ q=>q) λ_ _ q=>q
theorem HOk.laid(x:HOk P w H h)(k:∀b u,h.get? b=some u->h'.get? b=some u)(hp:h.objs.size<=a)(new:ObjOk P w (upd H a o) h' a o):HOk P w (upd H a o) h':=λb u e=>by
 have hn:=x.fresh hp
 by_cases hb:b=a
 ·subst hb;rw[qp]at e;cases e;exact new
 ·rw[j6 hb]at e;exact(x b u e).stay (λc v _ q=>k c v q) (λc q=>by rw[j6 (ie q hn)];exact q) λc xs q=>by rw[j6 (ie q hn)];exact q
end
def Rd(H:Hp)(a:Addr)(u:HO):Prop:=H a=some u\/∃o,H a=some (.frz o u)
theorem Rd.of(h:H a=some u):Rd H a u:=.inl h
theorem Rd.ok(r:Rd H a u)(x:HOk P w H h):ObjOk P w H h a u:=by
 rcases r with r|⟨o,r⟩
 ·exact x a u r
 ·obtain⟨_,q⟩:=x a _ r;exact q
def Mut:Option HO->Prop
 |some (.lst _)=>True
 |some (.dK _)=>True
 |some (.dT _)=>True
 |some (.set _ _)=>True
 |some (.ins _ _ _)=>True
 |some (.ext _)=>True
 |_=>False
section
variable{P:Program}{w:World}{H:Hp}{h h':Heap}{x e:Addr}{o':HO}
theorem HOk.write(ok:HOk P w H h)(mu:Mut (H x))(he:e=x\/H e=some (.own x))(k:∀b u,b≠e->h.get? b=some u->h'.get? b=some u)(heo:∃u,h'.get? e=some u)
  (new:ObjOk P w (upd H x o') h' x o'):HOk P w (upd H x o') h':=λb u q=>by
 have nown:∀c y,H c=some (.own y)->c≠x:=λc y r z=>by subst z;rw[r]at mu;exact mu
 have ntup:∀c xs,H c=some (.tup xs)->c≠x:=λc xs r z=>by subst z;rw[r]at mu;exact mu
 by_cases hb:b=x
 ·subst hb;rw[qp]at q;cases q;exact new
 ·rw[j6 hb]at q
  by_cases hbe:b=e
  ·have q':H b=some (.own x):=by
    rcases he with z|z
    ·exact absurd (hbe.trans z) hb
    ·rw[hbe];exact z
   rw[q]at q';cases q'
   obtain⟨v,hv⟩:=heo;exact⟨v,by rw[hbe];exact hv⟩
  ·refine(ok b u q).stay (λc v hc r=>k c v ?_ r) (λc r=>by rw[j6 (nown c b r)];exact r) λc xs r=>by rw[j6 (ntup c xs r)];exact r
   rcases hc with rfl|hc
   ·exact hbe
   ·rintro rfl
    rcases he with z|z
    ·exact nown c b hc z
    ·rw[hc]at z;cases z;exact hb rfl
end
structure Un (fs ex:List Addr) (H H':Hp) (h h':Heap):Prop where
 keep:∀b o,h.get? b=some o->H b=none->b∉fs->b∉ex->h'.get? b=some o
 slot:∀b o,h.get? b=some o->H b=none->b∈fs->b∉ex->∃sl,h'.get? b=some {o with slots:=sl}
 free:∀b o,h.get? b=some o->H b=none->b∉ex->H' b=none
 there:∀b o,h.get? b=some o->b∉ex->∃o',h'.get? b=some o'
 tups:∀b xs,H b=some (.tup xs)->H' b=some (.tup xs)
 frzs:∀b o u,H b=some (.frz o u)->H' b=some (.frz o u)
 tbls:∀b ps,H b=some (.tbl ps)->∃more,H' b=some (.tbl (ps++more))
section
variable{fs fs' ex ex':List Addr}{H H1 H2:Hp}{h h1 h2 h':Heap}{a x e:Addr}{o:HO}
theorem Un.any(u:Un fs ex H H1 h h1)(q:h.get? b=some ob)(n:H b=none)(hx:b∉ex):∃sl,h1.get? b=some {ob with slots:=sl}:=by
 by_cases hb:b∈fs
 ·exact u.slot b ob q n hb hx
 ·exact⟨ob.slots,u.keep b ob q n hb hx⟩
theorem Un.kept(k:∀b u,h.get? b=some u->h'.get? b=some u):Un fs ex H H h h' :=
 ⟨λb ob q _ _ _=>k b ob q,λb ob q _ _ _=>⟨ob.slots,k b ob q⟩,λ_ _ _ n _=>n,λb ob q _=>⟨ob,k b ob q⟩,λ_ _ q=>q,λ_ _ _ q=>q,λ_ ps q=>⟨#[],by rw[q];simp⟩⟩
theorem Un.refl:Un fs ex H H h h:=Un.kept λ_ _ q=>q
theorem Un.laid(k:∀b u,h.get? b=some u->h'.get? b=some u)(hp:h.objs.size<=a)(hn:H a=none):Un fs ex H (upd H a o) h h' where
 keep:=λb u q _ _ _=>k b u q
 slot:=λb u q _ _ _=>⟨u.slots,k b u q⟩
 free:=λb u q n _=>by rw[j6 (br (aN (ax q) hp))];exact n
 there:=λb u q _=>⟨u,k b u q⟩
 tups:=λb xs q=>by rw[j6 (ie q hn)];exact q
 frzs:=λb u xs q=>by rw[j6 (ie q hn)];exact q
 tbls:=λb ps q=>⟨#[],by rw[j6 (ie q hn),q];simp⟩
theorem Un.write(mu:Mut (H x))(he:e=x\/H e=some (.own x))(k:∀b u,b≠e->h.get? b=some u->h'.get? b=some u)(heo:∃u,h'.get? e=some u):Un fs ex H (upd H x o) h h':=by
 have hx:∀b,H b=none->b≠x:=λb n z=>by subst z;rw[n]at mu;exact mu
 have hb:∀b,H b=none->b≠e:=λb n z=>by
  subst z
  rcases he with r|r
  ·exact hx b n r
  ·rw[n]at r;cases r
 have hm:∀b u,H b=some u->¬ Mut (some u)->b≠x:=λb u q nm z=>by subst z;rw[q]at mu;exact nm mu
 refine⟨λb u q n _ _=>k b u (hb b n) q,λb u q n _ _=>⟨u.slots,k b u (hb b n) q⟩,λb u q n _=>by rw[j6 (hx b n)];exact n,λb u q _=>?_,
  λb xs q=>by rw[j6 (hm b _ q λz=>z)];exact q,λb u xs q=>by rw[j6 (hm b _ q λz=>z)];exact q,λb ps q=>⟨#[],by rw[j6 (hm b _ q λz=>z),q];simp⟩⟩
 by_cases hbe:b=e
 ·subst hbe;exact heo
 ·exact⟨u,k b u hbe q⟩
end
def trk(h:Heap)(H:Hp):List Addr:=(List.range h.objs.size).filter λa=>(H a).isSome
def ad0(h:Heap)(H:Hp):Heap:=PySem.W.hideAll h (trk h H)
theorem a9s(h:Heap)(H:Hp):(ad0 h H).objs.size=h.objs.size:=PySem.W.hideAll_size _ _
theorem ad1{h:Heap}(e:h.get? b=some o)(n:H b=none):(ad0 h H).get? b=some o :=
 PySem.W.hideAll_get _ e λhm=>by
  have q:(H b).isSome=true:=(List.mem_filter.mp hm).2;rw[n]at q;simp at q
theorem agl(e:(ad0 h H).get? b=some o):h.get? b=some o/\H b=none:=by
 have e':h.get? b=some o:=PySem.W.of_hideAll (trk h H) e;refine⟨e',?_⟩
 cases q:H b with
 |none=>rfl
 |some x =>
  have hm:b∈trk h H:=List.mem_filter.mpr ⟨List.mem_range.mpr (ax e'),by simp[q]⟩
  have z:(ad0 h H).get? b=none:=PySem.W.hideAll_none (trk h H) hm;rw[z]at e;cases e
structure Mod (K:Fg) (mg:Str->Option Value) (base:Heap):Prop where
 kin:K.In base
 glob:base.Ns mainGlobals mg
 blt:∃mb,base.Ns builtinsNs mb/\∀x:Str,x ≠ "__name__"->mb x=bootBuiltins x
 nolimit:base.NoLimit
structure Cx where
 prog:Program
 w:World
 K:Fg
 mg:Str->Option Value
 base:Heap
 A:Around
 N:List Str
 s₀:Shared
 H₀:Hp
 env:Env
 outer:List Env
 stack:List Env
 ex:List Addr
 fn:Str->Bool
 calm:Bool
 pn:List (Addr×Obj)
 xe:Value->Shared->Prop
def frs(l:List Env):List Addr:=l.filterMap (·.frame)
abbrev Cx.fs(X:Cx):List Addr:=frs X.outer
def Vis(sc:Scope)(x:Str):Prop:=sc.names.lookup x=some .local\/sc.names.lookup x=some .cell\/sc.names.lookup x=some .free
def Loc(sc:Scope)(x:Str):Prop:=sc.names.lookup x=some .local\/sc.names.lookup x=some .cell
def Look(env:Env)(h:Heap)(m:Str->Option Value)(x:Str)(u:Value):Prop :=
 (env.kindOf x=some .local/\m x=some u)\/((env.kindOf x=some .cell\/env.kindOf x=some .free)/\∃c,env.cells.lookup x=some c/\h.IsCell c (some u))
structure Cx.Ok (X:Cx):Prop where
 mod:Mod X.K X.mg X.base
 kind:X.env.scope.kind=.function
 glob:X.env.globals=mainGlobals
 blt:X.env.builtins=builtinsNs
 above:X.s₀.heap.objs.size<=X.env.locals
 inj:∀x y c,X.env.cells.lookup x=some c->X.env.cells.lookup y=some c->x=y
 has:∀x,(X.env.kindOf x=some .cell\/X.env.kindOf x=some .free)->∃c,X.env.cells.lookup x=some c
 cab:∀x c,X.fn x=true->X.env.cells.lookup x=some c->X.s₀.heap.objs.size<=c
 hd:X.calm=true->X.A.handled=none
 frames:X.A.frames=some X.stack
 stk:X.stack=X.outer\/(X.stack=X.env::X.outer/\X.env.frame=some X.env.locals)
 exf:∀b∈X.ex,b≠X.env.locals/\∀x c,X.env.cells.lookup x=some c->c≠b
 bs:∀b o,X.base.get? b=some o->X.s₀.heap.get? b=some o/\X.H₀ b=none
 bsz:X.base.objs.size<=X.s₀.heap.objs.size
 noex:∀b o,X.base.get? b=some o->b∉X.ex
 exfs:∀b∈X.ex,b∉X.fs
 funs:X.s₀.heap.FunFrames X.base X.outer
 frf:∀b∈X.fs,X.H₀ b=none
structure Inv (X:Cx) (aA:List (Addr×Obj)) (σ:List (Option V)) (H:Hp) (s:Shared):Prop where
 ok:X.Ok
 os:s.os=X.s₀.os
 bare:AllBare s.gens
 base:Un X.fs X.ex X.H₀ H X.s₀.heap s.heap
 loc:∃m,s.heap.Ns X.env.locals m/\∀(i:Nat) (x:Str) (v:V),X.N[i]? = some x->σ[i]? = some (some v)->Vis X.env.scope x->∃u,RelV v u/\Look X.env s.heap m x u
 cell:∀x c,X.env.cells.lookup x=some c->∃v,s.heap.IsCell c v
 free:H X.env.locals=none
 freeC:∀x c,X.env.cells.lookup x=some c->H c=none
 pin:∀p∈X.pn++aA,s.heap.get? p.1=some p.2/\H p.1=none/\p.1≠X.env.locals/\p.1∉X.fs/\∀v,p.2.data≠.cell v
 hok:HOk X.prog X.w H s.heap
 len:σ.length=X.N.length
section
variable{X:Cx}{aA:List (Addr×Obj)}{σ:List (Option V)}{H H':Hp}{s:Shared}{h':Heap}
theorem Cx.Ok.nofr(ok:X.Ok)(e:X.base.get? b=some o):b∉X.fs:=λhb=>by
 have:=(ok.funs.mem hb).1
 rw[e]at this;cases this
theorem Inv.bs(I:Inv X aA σ H s):∀b o,X.base.get? b=some o->s.heap.get? b=some o/\H b=none:=λb o e =>
 ⟨I.base.keep b o (I.ok.bs b o e).1 (I.ok.bs b o e).2 (I.ok.nofr e) (I.ok.noex b o e),I.base.free b o (I.ok.bs b o e).1 (I.ok.bs b o e).2 (I.ok.noex b o e)⟩
theorem Inv.bk(I:Inv X aA σ H s):∀b o,X.base.get? b=some o->s.heap.get? b=some o:=λb o e=>(I.bs b o e).1
theorem Inv.mod(I:Inv X aA σ H s):Mod X.K X.mg X.base:=I.ok.mod
theorem Inv.kIn(I:Inv X aA σ H s):X.K.In s.heap:=I.ok.mod.kin.keeps I.bk
theorem Inv.lt(I:Inv X aA σ H s):X.env.locals<s.heap.objs.size:=let ⟨_,hn,_⟩:=I.loc;hn.lt
theorem Inv.sz(I:Inv X aA σ H s):X.s₀.heap.objs.size<=s.heap.objs.size:=bX I.ok.above (Nat.le_of_lt I.lt)
theorem Inv.nofs(I:Inv X aA σ H s)(h:s.heap.objs.size<=a):a∉X.fs:=λhb=>by
 obtain⟨_,o,ho,_⟩:=I.ok.funs.mem hb;exact absurd (aN (ax ho) (bX I.sz h)) (bR _)
theorem Inv.cne(I:Inv X aA σ H s):∀x c,X.env.cells.lookup x=some c->c≠X.env.locals:=λx c e z=>by
 obtain⟨v,o,ho,hd⟩:=I.cell x c e;obtain⟨m,⟨o',es,ep,ho',hd',_⟩,_⟩:=I.loc;rw[z,ho']at ho;cases ho;rw[hd']at hd;cases hd
theorem Inv.funs(I:Inv X aA σ H s):s.heap.FunFrames X.base X.outer:=by
 have all:∀(l:List Env),(∀b∈frs l,b∈X.fs)->X.s₀.heap.FunFrames X.base l->s.heap.FunFrames X.base l:=by
  intro l
  induction l with
  |nil=>intro _ _;trivial
  |cons env r ih =>
   intro hs hl
   obtain⟨hk,⟨L,o,hf,hn,ho,hd⟩,hr⟩:=hl;have hL:L∈X.fs:=hs L (by unfold frs;rw[dM,hf];exact aV)
   obtain⟨sl,e⟩:=I.base.slot L o ho (I.ok.frf L hL) hL λz=>I.ok.exfs L z hL;exact⟨hk,⟨L,_,hf,hn,e,hd⟩,ih (λb hb=>hs b (by unfold frs;rw[dM,hf];exact aR _ hb)) hr⟩
 exact all X.outer (λ_ hb=>hb) I.ok.funs
theorem Inv.stack(I:Inv X aA σ H s):s.heap.FunFrames X.base X.stack:=by
 rcases I.ok.stk with e|⟨e,hf⟩
 ·rw[e];exact I.funs
 ·rw[e];obtain⟨m,hn,_⟩:=I.loc;refine .cons (by rw[I.ok.kind];decide) hf hn ?_ I.funs
  exact Heap.get?_none_of_le (bX I.ok.bsz I.ok.above)
theorem Inv.stkSub(I:Inv X aA σ H s):∀b∈frs X.stack,b∈X.env.locals::X.fs:=λb hb=>by
 rcases I.ok.stk with e|⟨e,hf⟩
 ·rw[e]at hb;exact aR _ hb
 ·rw[e]at hb;unfold frs at hb;rw[dM,hf]at hb;exact hb
theorem Inv.stkFree(I:Inv X aA σ H s):∀b∈frs X.stack,H b=none:=λb hb=>by
 rcases aO.mp (I.stkSub b hb) with e|hb
 ·rw[e];exact I.free
 ·obtain⟨_,o,ho,_⟩:=I.ok.funs.mem hb;exact I.base.free b o ho (I.ok.frf b hb) λz=>I.ok.exfs b z hb
theorem Inv.step{g':Array GenState}{t':Nat}{d':Drawn}{ch:List Addr}(I:Inv X aA σ H s)
  (hch:∀b∈ch,(b∈X.ex\/X.s₀.heap.objs.size<=b)/\b≠X.env.locals/\(∀x c,X.env.cells.lookup x=some c->c≠b)/\∀p∈X.pn++aA,p.1≠b)
  (keep:∀b o,b≠X.env.locals->b∉X.fs->b∉ch->s.heap.get? b=some o->H b=none->h'.get? b=some o)
  (slot:∀b o,b≠X.env.locals->b∈X.fs->b∉ch->s.heap.get? b=some o->H b=none->∃sl,h'.get? b=some {o with slots:=sl}) (free:∀b o,b∉ch->s.heap.get? b=some o->H b=none->H' b=none)
  (there:∀b o,b∉ch->s.heap.get? b=some o->∃o',h'.get? b=some o')
  (tups:∀b xs,H b=some (.tup xs)->H' b=some (.tup xs)) (frzs:∀b o u,H b=some (.frz o u)->H' b=some (.frz o u)) (tbls:∀b ps,H b=some (.tbl ps)->∃more,H' b=some (.tbl (ps++more)))
  (ns:∀m,s.heap.Ns X.env.locals m->h'.Ns X.env.locals m) (hok:HOk X.prog X.w H' h') (hg:AllBare g') :
  Inv X aA σ H' {s with heap:=h',gens:=g',drawn:=d',toks:=t' }:=by
 have neL:∀b o,X.s₀.heap.get? b=some o->b≠X.env.locals:=λb o e=>br (aN (ax e) I.ok.above);have neC:∀b o,X.s₀.heap.get? b=some o->b∉X.ex->b∉ch:=λb o e hx hb=>by
  rcases(hch b hb).1 with z|z
  ·exact hx z
  ·exact absurd (aN (ax e) z) (bR _)
 have cellK:∀x c,X.env.cells.lookup x=some c->∀v,s.heap.IsCell c v->h'.IsCell c v:=λx c e v ⟨o,ho,hd⟩=>by
  have nch:c∉ch:=λz=>(hch c z).2.2.1 x c e rfl
  by_cases hc:c∈X.fs
  ·obtain⟨sl,q⟩:=slot c o (I.cne x c e) hc nch ho (I.freeC x c e);exact⟨_,q,hd⟩
  ·exact⟨o,keep c o (I.cne x c e) hc nch ho (I.freeC x c e),hd⟩
 refine⟨I.ok,I.os,hg,⟨λb o e n hb hx=>?_,λb o e n hb hx=>?_,λb o e n hx=>?_,λb o e hx=>?_,λb xs e=>tups b xs (I.base.tups b xs e),λb o xs e=>frzs b o xs (I.base.frzs b o xs e),λb ps e=>?_⟩,?_,λx c e=>?_,?_,λx c e=>?_,λp hp=>?_,hok,I.len⟩
 ·exact keep b o (neL b o e) hb (neC b o e hx) (I.base.keep b o e n hb hx) (I.base.free b o e n hx)
 ·obtain⟨sl,e1⟩:=I.base.slot b o e n hb hx;obtain⟨sl',e2⟩:=slot b _ (neL b o e) hb (neC b o e hx) e1 (I.base.free b o e n hx);exact⟨sl',e2⟩
 ·obtain⟨o',e1⟩:=I.base.there b o e hx;exact free b o' (neC b o e hx) e1 (I.base.free b o e n hx)
 ·obtain⟨o',e1⟩:=I.base.there b o e hx;exact there b o' (neC b o e hx) e1
 ·obtain⟨m1,e1⟩:=I.base.tbls b ps e;obtain⟨m2,e2⟩:=tbls b _ e1;exact⟨m1++m2,by rw[e2,Array.append_assoc]⟩
 ·obtain⟨m,hn,hl⟩:=I.loc;refine⟨m,ns m hn,λi x v e1 e2 e3=>?_⟩;obtain⟨u,r,l⟩:=hl i x v e1 e2 e3;refine⟨u,r,?_⟩
  rcases l with l|⟨k,c,e,z⟩
  ·exact .inl l
  ·exact .inr ⟨k,c,e,cellK x c e _ z⟩
 ·obtain⟨v,z⟩:=I.cell x c e;exact⟨v,cellK x c e v z⟩
 ·obtain⟨m,⟨o,_,_,ho,_⟩,_⟩:=I.loc;exact free _ o (λz=>(hch _ z).2.1 rfl) ho I.free
 ·obtain⟨v,o,ho,hd⟩:=I.cell x c e;exact free c o (λz=>(hch c z).2.2.1 x c e rfl) ho (I.freeC x c e)
 ·obtain⟨e,n,ne,nf,d⟩:=I.pin p hp;have nch:p.1∉ch:=λz=>(hch p.1 z).2.2.2 p hp rfl;exact⟨keep p.1 p.2 ne nf nch e n,free p.1 p.2 nch e n,ne,nf,d⟩
theorem Inv.un{t':Nat}(I:Inv X aA σ H s)(u:Un X.fs [] H H' s.heap h')(hok:HOk X.prog X.w H' h'):Inv X aA σ H' {s with heap:=h',toks:=t' }:=by
 obtain⟨m,⟨o,es,ep,ho,r⟩,_⟩:=id I.loc;obtain⟨sl,hL⟩:=u.any ho I.free (by simp)
 exact I.step (g':=s.gens) (d':=s.drawn) (ch:=[]) (λ_ z=>nomatch z) (λb o _ hb _ e n=>u.keep b o e n hb (by simp)) (λb o _ hb _ e n=>u.slot b o e n hb (by simp)) (λb o _ e n=>u.free b o e n (by simp)) (λb o _ e=>u.there b o e (by simp)) u.tups u.frzs u.tbls (λm' hm=>by
  obtain⟨o',es',ep',ho',r'⟩:=hm;rw[ho]at ho';cases ho'
  exact⟨_,es',ep',hL,r'⟩) hok I.bare
theorem Inv.call{g':Array GenState}{t':Nat}{d':Drawn}{ch:List Addr}(I:Inv X aA σ H s)(u:Un (frs X.stack) ch H H' s.heap h')(hok:HOk X.prog X.w H' h')(hg:AllBare g')
  (hch:∀b∈ch,(b∈X.ex\/X.s₀.heap.objs.size<=b)/\b≠X.env.locals/\(∀x c,X.env.cells.lookup x=some c->c≠b)/\∀p∈X.pn++aA,p.1≠b) :
  Inv X aA σ H' {s with heap:=h',gens:=g',drawn:=d',toks:=t' }:=by
 obtain⟨m,⟨o,es,ep,ho,r⟩,_⟩:=id I.loc;obtain⟨sl,hL⟩:=u.any ho I.free λz=>(hch _ z).2.1 rfl;exact I.step (ch:=ch) hch (λb o hL hb hc e n=>u.keep b o e n (λz=>(aO.mp (I.stkSub b z)).elim hL hb) hc) (λb o _ _ hc e n=>u.any e n hc) (λb o hc e n=>u.free b o e n hc) (λb o hc e=>u.there b o e hc) u.tups u.frzs u.tbls (λm' hm=>by
  obtain⟨o',es',ep',ho',r'⟩:=hm;rw[ho]at ho';cases ho'
  exact⟨_,es',ep',hL,r'⟩) hok hg
theorem Inv.turned{t':Nat}{it:Addr}(I:Inv X aA σ H s)(k:∀b o,b≠it->s.heap.get? b=some o->h'.get? b=some o)(hn:H it=none)(hL:it≠X.env.locals)
  (h1:it∈X.ex\/X.s₀.heap.objs.size<=it) (h2:∀x c,X.env.cells.lookup x=some c->c≠it) (h3:∀p∈X.pn++aA,p.1≠it):Inv X aA σ H {s with heap:=h',toks:=t' }:=by
 have nit:∀b u,H b=some u->b≠it:=λb u e z=>by rw[z,hn]at e;cases e
 refine I.step (g':=s.gens) (d':=s.drawn) (ch:=[it]) (λb hb=>?_) (λb o _ _ hc e _=>k b o (λz=>hc (by simp[z])) e) (λb o _ _ hc e _=>⟨o.slots,k b o (λz=>hc (by simp[z])) e⟩) (λ_ _ _ _ n=>n)
  (λb o hc e=>⟨o,k b o (λz=>hc (by simp[z])) e⟩) (λ_ _ e=>e) (λ_ _ _ e=>e) (λb ps e=>⟨#[],by rw[e];simp⟩) (λm hm=>?_) (λb u e=>?_) I.bare
 ·have e:b=it:=by simpa using hb
  subst e;exact⟨h1,hL,h2,h3⟩
 ·obtain⟨o,es,ep,ho,r⟩:=hm;exact⟨o,es,ep,k _ o (eJ hL) ho,r⟩
 ·refine(I.hok b u e).stay (λc v hc q=>k c v ?_ q) (λ_ q=>q) λ_ _ q=>q
  rcases hc with z|z
  ·rw[z];exact nit b u e
  ·exact nit c _ z
theorem Inv.tok(I:Inv X aA σ H s)(t:Nat):Inv X aA σ H {s with toks:=t}:=I.un (h':=s.heap) (t':=t) Un.refl I.hok
theorem Inv.kept(I:Inv X aA σ H s)(k:∀b u,s.heap.get? b=some u->h'.get? b=some u):Inv X aA σ H {s with heap:=h',toks:=t' }:=I.un (Un.kept k) (I.hok.kept k)
theorem Inv.laid(I:Inv X aA σ H s)(k:∀b u,s.heap.get? b=some u->h'.get? b=some u)(hp:s.heap.objs.size<=a)(new:ObjOk X.prog X.w (upd H a o) h' a o) :
  Inv X aA σ (upd H a o) {s with heap:=h',toks:=t' }:=I.un (Un.laid k hp (I.hok.fresh hp)) (I.hok.laid k hp new)
theorem Inv.write(I:Inv X aA σ H s)(mu:Mut (H x))(he:e=x\/H e=some (.own x))(k:∀b u,b≠e->s.heap.get? b=some u->h'.get? b=some u)(heo:∃u,h'.get? e=some u)
  (new:ObjOk X.prog X.w (upd H x o) h' x o):Inv X aA σ (upd H x o) {s with heap:=h',toks:=t' }:=I.un (Un.write mu he k heo) (I.hok.write mu he k heo new)
theorem Inv.weak{σ':List (Option V)}(I:Inv X aA σ H s)(hl:σ'.length=σ.length)(w:∀(i:Nat) v,σ'[i]? = some (some v)->σ[i]? = some (some v)):Inv X aA σ' H s :=
 ⟨I.ok,I.os,I.bare,I.base,let ⟨m,hn,hl'⟩:=I.loc; ⟨m,hn,λi x v e1 e2 e3=>hl' i x v e1 (w i v e2) e3⟩,I.cell,I.free,I.freeC,I.pin,I.hok,hl.trans I.len⟩
theorem Inv.pins_of(I:Inv X aA σ H s)(h:∀p∈pins',s.heap.get? p.1=some p.2/\H p.1=none/\p.1≠X.env.locals/\p.1∉X.fs/\∀v,p.2.data≠.cell v):Inv X pins' σ H s :=
 ⟨I.ok,I.os,I.bare,I.base,I.loc,I.cell,I.free,I.freeC,λp hp=>(bU.mp hp).elim (λz=>I.pin p (dH _ z)) (h p),I.hok,I.len⟩
theorem a7s{N:List Str}(hN:N.Nodup){i j:Nat}(a:N[i]? = some x)(b:N[j]? = some x):i=j:=by
 obtain⟨h1,e1⟩:=a7.mp a;obtain⟨h2,e2⟩:=a7.mp b;exact(List.getElem_inj hN).mp (e1.trans e2.symm)
abbrev Hf(X:Cx)(x:Str):Prop:=X.fn x=true\/X.env.scope.names.lookup x=some .local
theorem a5l{i:Nat}(I:Inv X aA σ H s)(hN:X.N.Nodup)(hi:X.N[i]? = some x)(hx:Loc X.env.scope x)(r:RelV v u)
  (h:∀s',Inv X aA (σ.set i (some v)) H s'->(∃a,Heap.SameBut a s.heap s'.heap/\(a=X.env.locals\/X.env.cells.lookup x=some a))->Q () s') (hf:Hf X x:=by first|exact .inl rfl|exact .inr rfl|assumption):wpAny M A (storeName X.env x u) Q E s:=by
 obtain⟨m,hn,hl⟩:=id I.loc;have hcls:(X.env.scope.kind == .class || (X.env.scope.kind == .module && X.env.locals != X.env.globals))=false:=by rw[I.ok.kind];rfl
 have hiσ:i<σ.length:=by rw[I.len];exact(a7.mp hi).1
 have cne:=I.cne;have tracked:∀{a:Addr} {h':Heap},(∃o,s.heap.get? a=some o/\H a=none)->Heap.SameBut a s.heap h'->HOk X.prog X.w H h':=λ{a h'} ha hs b ob e=>by
  obtain⟨_,_,hfree⟩:=ha;refine(I.hok b ob e).stay (λc w' hc q=>(hs.2 c ?_).trans q) (λ_ q=>q) λ_ _ q=>q
  rintro rfl
  rcases hc with rfl|hc
  ·rw[hfree]at e;cases e
  ·rw[hfree]at hc;cases hc
 rcases hx with hk|hk
 ·refine wpAny_storeName_local hk hn (λh' hn' hs=>?_) hcls;obtain⟨oL,_,_,hoL,_⟩:=id hn;refine h _ ⟨I.ok,I.os,I.bare,⟨λb o e n hb hx=>?_,λb o e n hb hx=>?_,I.base.free,λb o e hx=>?_,I.base.tups,I.base.frzs,I.base.tbls⟩,⟨_,hn',λj y v' e1 e2 e3=>?_⟩,λy c e=>?_,I.free,I.freeC,λp hp=>?_,tracked ⟨oL,hoL,I.free⟩ hs,by simpa using I.len⟩ ⟨_,hs,.inl rfl⟩
  ·exact(hs.2 b (br (aN (ax e) I.ok.above))).trans (I.base.keep b o e n hb hx)
  ·obtain⟨sl,e1⟩:=I.base.slot b o e n hb hx;exact⟨sl,(hs.2 b (br (aN (ax e) I.ok.above))).trans e1⟩
  ·obtain⟨o',e1⟩:=I.base.there b o e hx;exact⟨o',(hs.2 b (br (aN (ax e) I.ok.above))).trans e1⟩
  ·by_cases hj:j=i
   ·subst hj;rw[hi]at e1;cases e1
    rw[bK hiσ]at e2;cases e2
    exact⟨u,r,.inl ⟨hk,by simp⟩⟩
   ·rw[cy (eJ hj)]at e2;obtain⟨u',r',q⟩:=hl j y v' e1 e2 e3;refine⟨u',r',?_⟩
    rcases q with⟨k,e⟩|⟨k,c,e,z⟩
    ·refine .inl ⟨k,?_⟩;have:y≠x:=λe=>hj (a7s hN e1 (e ▸ hi));simp[this,e]
    ·exact .inr ⟨k,c,e,z.sameBut hs (cne y c e)⟩
  ·obtain⟨w',z⟩:=I.cell y c e;exact⟨w',z.sameBut hs (cne y c e)⟩
  ·obtain⟨e,n,ne,nf,d⟩:=I.pin p hp;exact⟨(hs.2 p.1 ne).trans e,n,ne,nf,d⟩
 ·have hfn:X.fn x=true:=by
   rcases hf with z|z
   ·exact z
   ·rw[z]at hk;cases hk
  obtain⟨c,hc⟩:=I.ok.has x (.inl hk);obtain⟨w',z⟩:=I.cell x c hc;refine wpAny_storeName_cell I.ok.kind hk hc z (λh' hc' hs=>?_);obtain⟨oc,hoc,hocd⟩:=id z;refine h {s with heap:=h' } ⟨I.ok,I.os,I.bare,⟨λb o e n hb hx=>?_,λb o e n hb hx=>?_,I.base.free,λb o e hx=>?_,I.base.tups,I.base.frzs,I.base.tbls⟩,⟨m,hn.sameBut hs (eJ (cne x c hc)),λj y v' e1 e2 e3=>?_⟩,λy c' e=>?_,I.free,I.freeC,λp hp=>?_,tracked ⟨oc,hoc,I.freeC x c hc⟩ hs,by simpa using I.len⟩ ⟨c,hs,.inr hc⟩
  ·exact(hs.2 b (br (aN (ax e) (I.ok.cab x c hfn hc)))).trans (I.base.keep b o e n hb hx)
  ·obtain⟨sl,e1⟩:=I.base.slot b o e n hb hx;exact⟨sl,(hs.2 b (br (aN (ax e) (I.ok.cab x c hfn hc)))).trans e1⟩
  ·obtain⟨o',e1⟩:=I.base.there b o e hx;exact⟨o',(hs.2 b (br (aN (ax e) (I.ok.cab x c hfn hc)))).trans e1⟩
  ·by_cases hj:j=i
   ·subst hj;rw[hi]at e1;cases e1
    rw[bK hiσ]at e2;cases e2
    exact⟨u,r,.inr ⟨.inl hk,c,hc,hc'⟩⟩
   ·rw[cy (eJ hj)]at e2;obtain⟨u',r',q⟩:=hl j y v' e1 e2 e3;refine⟨u',r',?_⟩
    rcases q with q|⟨k,c',e,z'⟩
    ·exact .inl q
    ·refine .inr ⟨k,c',e,z'.sameBut hs ?_⟩
     rintro rfl
     exact hj (a7s hN e1 (I.ok.inj _ _ _ e hc ▸ hi))
  ·by_cases hcc:c'=c
   ·subst hcc;exact⟨_,hc'⟩
   ·obtain⟨w2,z2⟩:=I.cell y c' e;exact⟨w2,z2.sameBut hs hcc⟩
  ·obtain⟨e,n,ne,nf,d⟩:=I.pin p hp;refine⟨(hs.2 p.1 ?_).trans e,n,ne,nf,d⟩
   intro q
   rw[q,hoc]at e;have q':oc=p.2:=b6 e;exact d w' (by rw[<-q'];exact hocd)
theorem a4b(I:Inv X aA σ H s)(hN:X.N.Nodup)(hi:X.N[i]? = some x)(hx:Loc X.env.scope x)(r:RelV v u)
  (h:∀s',Inv X aA (σ.set i (some v)) H s'->Q () s') (hf:Hf X x:=by first|exact .inl rfl|exact .inr rfl|assumption):wpAny M A (storeName X.env x u) Q E s :=
 a5l I hN hi hx r (λs' I' _=>h s' I') hf
end
abbrev XK:=Value->Option Addr->Hp->Prop
abbrev St:=List (Option V)
abbrev VK:=V->Hp->Prop
abbrev TE:=St->Hp->VK->Prop
abbrev TT:=St->Hp->(Bool->Hp->Prop)->Prop
abbrev TA:=St->Hp->(List V->Hp->Prop)->Prop
structure Ends where
 nx:St->Hp->Prop
 rt:VK
 bk:St->Hp->Prop:=λ_ _=>False
 ct:St->Hp->Prop:=λ_ _=>False
abbrev TS:=Ends->St->Hp->Prop
def EP(X:Cx)(aA:List (Addr×Obj))(σ:St)(Q:VK)(u:Value)(s':Shared):Prop:=∃v H',Inv X aA σ H' s'/\RelV v u/\Q v H'
def TP(X:Cx)(aA:List (Addr×Obj))(σ:St)(Q:Bool->Hp->Prop)(b:Bool)(s':Shared):Prop:=∃H',Inv X aA σ H' s'/\Q b H'
def AP(X:Cx)(aA:List (Addr×Obj))(σ:St)(Q:List V->Hp->Prop)(us:List Value)(s':Shared):Prop:=∃vs H',Inv X aA σ H' s'/\Vals vs us/\Q vs H'
def SP(X:Cx)(aA:List (Addr×Obj))(D:Ends)(f:Flow)(s':Shared):Prop :=
 match f with
 |.next=>∃σ' H',Inv X aA σ' H' s'/\D.nx σ' H'
 |.brk=>∃σ' H',Inv X aA σ' H' s'/\D.bk σ' H'
 |.cont=>∃σ' H',Inv X aA σ' H' s'/\D.ct σ' H'
 |.ret u=>∃v σ' H',Inv X aA σ' H' s'/\RelV v u/\D.rt v H'
def PE(X:Cx)(e:Expr)(t:TE):Prop :=
 ∀(aA:List (Addr×Obj)) (s:Shared) (σ:St) (H:Hp) (Q:VK),Inv X aA σ H s->t σ H Q->wpAny (model X.prog X.w) X.A (eval e X.env) (EP X aA σ Q) X.xe s
def PT(X:Cx)(e:Expr)(t:TT):Prop :=
 ∀(aA:List (Addr×Obj)) (s:Shared) (σ:St) (H:Hp) (Q:Bool->Hp->Prop),Inv X aA σ H s->t σ H Q->wpAny (model X.prog X.w) X.A (isTrue e X.env (eval e X.env)) (TP X aA σ Q) X.xe s
def PW(X:Cx)(e:Expr)(t:TT):Prop :=
 ∀(whole:Sem Value) (aA:List (Addr×Obj)) (s:Shared) (σ:St) (H:Hp) (Q:Bool->Hp->Prop),Inv X aA σ H s->t σ H Q->wpAny (model X.prog X.w) X.A (isTrue e X.env whole) (TP X aA σ Q) X.xe s
theorem PW.pt(h:PW X e t):PT X e t:=h _
def PA(X:Cx)(es:List Expr)(t:TA):Prop :=
 ∀(pos:Pos) (aA:List (Addr×Obj)) (s:Shared) (σ:St) (H:Hp) (Q:List V->Hp->Prop),Inv X aA σ H s->t σ H Q->wpAny (model X.prog X.w) X.A (spliced (backTo pos (starEach es X.env))) (AP X aA σ Q) X.xe s
def PS(X:Cx)(st:Stmt)(t:TS):Prop :=
 ∀(aA:List (Addr×Obj)) (s:Shared) (σ:St) (H:Hp) (D:Ends),Inv X aA σ H s->t D σ H->wpAny (model X.prog X.w) X.A (exec st X.env) (SP X aA D) X.xe s
def PSs(X:Cx)(st:List Stmt)(t:TS):Prop :=
 ∀(aA:List (Addr×Obj)) (s:Shared) (σ:St) (H:Hp) (D:Ends),Inv X aA σ H s->t D σ H->wpAny (model X.prog X.w) X.A (execs st X.env) (SP X aA D) X.xe s
theorem thn{α:Type}{t:Sem α}{Q Q':α->Shared->Prop}{M:Model}{A:Around}{E:Value->Shared->Prop}{s:Shared}(h:wpAny M A t Q E s)(hQ:∀a s,Q a s->Q' a s):wpAny M A t Q' E s:=bQ h hQ λ_ _ x=>x
section
variable{X:Cx}
def arh(i:Nat):TE:=λσ H Q=>∃v,σ[i]? = some (some v)/\Q v H
def tC(v:V):TE:=λ_ H Q=>Q v H
theorem ajf(hN:X.N[i]? = some x)(hv:Vis X.env.scope x)(hd:(x == ("__debug__" : Str))=false:=by decide)(hcd:(x == ("__classdict__" : Str))=false:=by decide):PE X (.Name x pos) (arh i):=by
 intro aA s σ H Q I h
 obtain⟨v,e,h⟩:=h;obtain⟨m,hn,hl⟩:=I.loc;obtain⟨u,r,l⟩:=hl i x v hN e hv;have fin:EP X aA σ Q u s:=⟨v,H,I,r,h⟩
 rcases l with⟨hk,hm⟩|⟨hk,c,hc,hcell⟩
 ·exact wpAny_Name (wpAny_loadName_local I.ok.kind hk hn hm fin) hd
 ·rcases hk with hk|hk
  ·exact wpAny_Name (wpAny_loadName_cell I.ok.kind hk hc hcell fin) hd
  ·exact wpAny_Name (wpAny_loadName_free I.ok.kind hk hc hcell fin hcd) hd
theorem ajg{i j pos}:PE X (.Constant (.int i) j pos) (tC (.int i)):=λ_ _ _ H _ I h=>wpAny_Constant_int ⟨.int i,H,I.tok _,⟨_,rfl⟩,h⟩
theorem ao6{b j pos}:PE X (.Constant (.bool b) j pos) (tC (.bl b)):=λ_ _ _ H _ I h=>Constant_bool ⟨.bl b,H,I,rfl,h⟩
theorem ajh{j pos}:PE X (.Constant .none j pos) (tC .non):=λ_ _ _ H _ I h=>Constant_none ⟨.non,H,I,rfl,h⟩
theorem aji{x j pos}:PE X (.Constant (.str x) j pos) (tC (.str x)):=λ_ _ _ H _ I h=>Calls.Constant_str ⟨.str x,H,I.tok _,⟨_,rfl⟩,h⟩
def Gl(X:Cx)(x:Str):Prop:=X.env.kindOf x=some .globalImplicit
theorem a72(I:Inv X aA σ H s)(hg:Gl X x)(hm:X.mg x=some u)(h:Q u s)
  (hd:(x == ("__debug__" : Str))=false:=by decide):wpAny (model X.prog X.w) X.A (eval (.Name x pos) X.env) Q E s :=
 Calls.Name_function_global I.ok.kind hg (Calls.loadGlobal_global (by rw[I.ok.glob];exact I.mod.glob.keeps I.bk) hm h) hd
theorem a5m(I:Inv X aA σ H s)(hg:Gl X x)(hm:X.mg x=none)(hv:bootBuiltins x=some u)(h:Q u s)
  (hn:x ≠ "__name__":=by decide) (hd:(x == ("__debug__" : Str))=false:=by decide):wpAny (model X.prog X.w) X.A (eval (.Name x pos) X.env) Q E s:=by
 obtain⟨mb,h1,h2⟩:=I.mod.blt;exact Calls.Name_function_global I.ok.kind hg (Calls.loadGlobal_builtin (by rw[I.ok.glob];exact I.mod.glob.keeps I.bk) hm (by rw[I.ok.blt];exact h1.keeps I.bk) ((h2 x hn).trans hv) h) hd
theorem a4c(hg:Gl X x)(hm:X.mg x=some u)(r:RelV v u)(hd:(x == ("__debug__" : Str))=false:=by decide):PE X (.Name x pos) (tC v) :=
 λ_ _ _ H _ I h=>a72 I hg hm ⟨v,H,I,r,h⟩ hd
theorem agm(hg:Gl X x)(hm:X.mg x=none)(hv:bootBuiltins x=some u)(r:RelV v u)(hn:x ≠ "__name__":=by decide)(hd:(x == ("__debug__" : Str))=false:=by decide):PE X (.Name x pos) (tC v) :=
 λ_ _ _ H _ I h=>a5m I hg hm hv ⟨v,H,I,r,h⟩ hn hd
variable{a b:Expr}{ta tb:TE}{pos:Pos}
variable{tA tB':TT}{aG:List Expr}
def ari(t u:TT):TT:=λσ H Q=>t σ H λc H1=>if c=true then u σ H1 Q else Q false H1
def tOr(t u:TT):TT:=λσ H Q=>t σ H λc H1=>if c=true then Q true H1 else u σ H1 Q
def arj(t:TT):TT:=λσ H Q=>t σ H λc H1=>Q (!c) H1
theorem agn(ha:PT X a tA):PW X (.BoolOp .And [a] pos) tA:=by
 intro wh aA s σ H Q I h
 refine isTrue_and (thn (ha aA s σ H Q I h) λc s1 e=>?_)
 cases c with
 |true=>exact isTrue_and_nil e
 |false=>exact e
theorem ajj(ha:PT X a tA):PW X (.BoolOp .Or [a] pos) tA:=by
 intro wh aA s σ H Q I h
 refine isTrue_or (thn (ha aA s σ H Q I h) λc s1 e=>?_)
 cases c with
 |false=>exact isTrue_or_nil e
 |true=>exact e
theorem ajk(ha:PT X a tA)(hb:PW X (.BoolOp .And (b::aG) pos) tB'):PW X (.BoolOp .And (a::b::aG) pos) (ari tA tB'):=by
 intro wh aA s σ H Q I h
 refine isTrue_and (thn (ha aA s σ H _ I h) λc s1 ⟨H1,I1,q1⟩=>?_)
 cases c with
 |true=>exact hb wh aA s1 σ H1 Q I1 q1
 |false=>exact⟨H1,I1,q1⟩
theorem ao7(ha:PT X a tA)(hb:PW X (.BoolOp .Or (b::aG) pos) tB'):PW X (.BoolOp .Or (a::b::aG) pos) (tOr tA tB'):=by
 intro wh aA s σ H Q I h
 refine isTrue_or (thn (ha aA s σ H _ I h) λc s1 ⟨H1,I1,q1⟩=>?_)
 cases c with
 |true=>exact⟨H1,I1,q1⟩
 |false=>exact hb wh aA s1 σ H1 Q I1 q1
theorem ajl(ha:PT X a tA):PT X (.UnaryOp .Not a pos) (arj tA):=by
 intro aA s σ H Q I h
 exact isTrue_not (ha aA s σ H (λc H1=>Q (!c) H1) I h)
def ao8(ta tb:TE):TE:=λσ H Q=>ta σ H λx H1=>∃c,x=.bl c/\if c=true then tb σ H1 Q else Q (.bl false) H1
def ao9(ta:TE):TE:=λσ H Q=>ta σ H λx H1=>∃c,x=.bl c/\Q (.bl (!c)) H1
theorem ajm{op}(h:PE X a t):PE X (.BoolOp op [a] pos) t:=λaA s σ H Q I hw=>BoolOp_one (h aA s σ H Q I hw)
theorem ajn(ha:PE X a ta)(hb:PE X (.BoolOp .And (b::aG) pos) tb):PE X (.BoolOp .And (a::b::aG) pos) (ao8 ta tb):=by
 intro aA s σ H Q I h
 refine BoolOp_and (thn (ha aA s σ H _ I h) λv s1 ⟨x,H1,I1,r1,q1⟩=>?_);obtain⟨c,rfl,q1⟩:=q1;cases r1
 refine bL ?_
 cases c with
 |true=>exact hb aA s1 σ H1 Q I1 q1
 |false=>exact⟨.bl false,H1,I1,rfl,q1⟩
theorem ajo(ha:PE X a ta):PE X (.UnaryOp .Not a pos) (ao9 ta):=by
 intro aA s σ H Q I h
 refine UnaryOp_ (thn (ha aA s σ H _ I h) λv s1 ⟨x,H1,I1,r1,q1⟩=>?_);obtain⟨c,rfl,q1⟩:=q1;cases r1
 exact not_of (bL ⟨.bl (!c),H1,I1,rfl,q1⟩)
def tIf(t:TT)(ta tb:TE):TE:=λσ H Q=>t σ H λc H1=>if c=true then ta σ H1 Q else tb σ H1 Q
theorem ad2{c:Expr}(hc:PT X c tA)(ha:PE X a ta)(hb:PE X b tb):PE X (.IfExp c a b pos) (tIf tA ta tb):=by
 intro aA s σ H Q I h
 refine wpAny_IfExp (thn (hc aA s σ H _ I h) λd s1 ⟨H1,I1,q1⟩=>?_)
 cases d with
 |true=>exact ha aA s1 σ H1 Q I1 q1
 |false=>exact hb aA s1 σ H1 Q I1 q1
end
def SqL(K:Fg)(H:Hp)(a:Addr)(xs:List V):Prop :=
 Rd H a (.lst xs) \/
  ∃(o:Obj) (its:Array Value) (n:Nat),K.lookup a=some o/\o.cls=.type "list"/\o.dict=none/\o.data=.seq its n/\its.size<=sizeLine/\Vals xs its.toList
def SqT(K:Fg)(H:Hp)(a:Addr)(xs:List V):Prop :=
 Rd H a (.tup xs) \/
  ∃(o:Obj) (its:Array Value) (n:Nat),K.lookup a=some o/\o.cls=.type "tuple"/\o.data=.seq its n/\its.size<=sizeLine/\Vals xs its.toList
def ark:Value->Option V
 |.none=>some .non
 |.bool b=>some (.bl b)
 |.int i _=>some (.int i)
 |.str x _=>some (.str x)
 |.bytes b _=>some (.byt b)
 |.float b _=>some (.flt b)
 |.ref a=>some (.ref a)
 |.type n=>some (.ty n)
 |_=>none
theorem RelV.abs(r:RelV x u):ark u=some x:=by
 cases x with
 |non=>cases r;rfl
 |bl _=>cases r;rfl
 |int _=>obtain⟨t,rfl⟩:=r;rfl
 |str _=>obtain⟨t,rfl⟩:=r;rfl
 |byt _=>obtain⟨t,rfl⟩:=r;rfl
 |flt _=>obtain⟨t,rfl⟩:=r;rfl
 |ref _=>cases r;rfl
 |ty _=>cases r;rfl
theorem RelV.inj(r:RelV x u)(q:RelV y u):x=y:=b6 (r.abs.symm.trans q.abs)
theorem Vals.inj:∀{xs ys:List V} {us:List Value},Vals xs us->Vals ys us->xs=ys
 |_,_,_,.nil,.nil=>rfl
 |_,_,_,.cons r t,.cons r' t'=>by rw[r.inj r',Vals.inj t t']
section
variable{X:Cx}{aA:List (Addr×Obj)}{σ:St}{H:Hp}{s:Shared}{a:Addr}{xs ys:List V}
theorem SqL.of{K:Fg}(h:H a=some (.lst xs)):SqL K H a xs:=.inl (.inl h)
theorem SqT.of{K:Fg}(h:H a=some (.tup xs)):SqT K H a xs:=.inl (.inl h)
theorem Inv.list(I:Inv X aA σ H s)(h:SqL X.K H a xs):∃its:List Value,Vals xs its/\PlainL s.heap a its.toArray/\xs.length<=sizeLine:=by
 rcases h with h|⟨o,its,n,hk,hc,hd,hs,hz,r⟩
 ·obtain⟨z,its,n,r,e⟩:=h.ok I.hok;exact⟨its,r,⟨_,n,e,rfl,rfl,rfl⟩,z⟩
 ·refine⟨its.toList,r,⟨o,n,I.kIn a o hk,hc,hd,by simpa using hs⟩,?_⟩
  have e:=r.length;simp only[dO]at e;omega
theorem Inv.tuple(I:Inv X aA σ H s)(h:SqT X.K H a xs):∃its:List Value,Vals xs its/\IsTup s.heap a its.toArray/\xs.length<=sizeLine:=by
 rcases h with h|⟨o,its,n,hk,hc,hs,hz,r⟩
 ·obtain⟨z,its,r,p⟩:=h.ok I.hok;exact⟨its,r,p.r,z⟩
 ·refine⟨its.toList,r,⟨o,I.kIn a o hk,hc,n,by simpa using hs⟩,?_⟩
  have e:=r.length;simp only[dO]at e;omega
theorem Inv.list_inj(I:Inv X aA σ H s)(h:SqL X.K H a xs)(h':SqL X.K H a ys):xs=ys:=by
 obtain⟨its,r,⟨o,n,e,_,_,d⟩,_⟩:=I.list h;obtain⟨its',r',⟨o',n',e',_,_,d'⟩,_⟩:=I.list h';rw[e]at e';cases e'
 rw[d]at d'
 injection d' with d1 _
 have:its=its':=by simpa using ah Array.toList d1
 subst this;exact r.inj r'
theorem Inv.tuple_inj(I:Inv X aA σ H s)(h:SqT X.K H a xs)(h':SqT X.K H a ys):xs=ys:=by
 obtain⟨its,r,⟨o,e,_,n,d⟩,_⟩:=I.tuple h;obtain⟨its',r',⟨o',e',_,n',d'⟩,_⟩:=I.tuple h';rw[e]at e';cases e'
 rw[d]at d'
 injection d' with d1 _
 have:its=its':=by simpa using ah Array.toList d1
 subst this;exact r.inj r'
end
abbrev Cx.wish(X:Cx)(E:Value->Shared->Prop):Cx:={X with xe:=E}
abbrev Cx.nox(X:Cx):Cx:=X.wish λ_ _=>False
theorem Cx.Ok.wish{X:Cx}(ok:X.Ok)(E:Value->Shared->Prop):(X.wish E).Ok :=
 ⟨ok.mod,ok.kind,ok.glob,ok.blt,ok.above,ok.inj,ok.has,ok.cab,ok.hd,ok.frames,ok.stk,ok.exf,ok.bs,ok.bsz,ok.noex,ok.exfs,ok.funs,ok.frf⟩
theorem Cx.Ok.unwish{X:Cx}(ok:(X.wish E).Ok):X.Ok :=
 ⟨ok.mod,ok.kind,ok.glob,ok.blt,ok.above,ok.inj,ok.has,ok.cab,ok.hd,ok.frames,ok.stk,ok.exf,ok.bs,ok.bsz,ok.noex,ok.exfs,ok.funs,ok.frf⟩
section
variable{X:Cx}{aA:List (Addr×Obj)}{σ:St}{H:Hp}{s:Shared}{E:Value->Shared->Prop}
theorem Inv.wish(I:Inv X aA σ H s)(E:Value->Shared->Prop):Inv (X.wish E) aA σ H s:=⟨I.ok.wish E,I.os,I.bare,I.base,I.loc,I.cell,I.free,I.freeC,I.pin,I.hok,I.len⟩
theorem Inv.unwish(I:Inv (X.wish E) aA σ H s):Inv X aA σ H s:=⟨I.ok.unwish,I.os,I.bare,I.base,I.loc,I.cell,I.free,I.freeC,I.pin,I.hok,I.len⟩
theorem SP.unwish(h:SP (X.wish E) aA D f s'):SP X aA D f s':=by
 cases f with
 |next=>obtain⟨σ',H',I,q⟩:=h;exact⟨σ',H',I.unwish,q⟩
 |brk=>obtain⟨σ',H',I,q⟩:=h;exact⟨σ',H',I.unwish,q⟩
 |cont=>obtain⟨σ',H',I,q⟩:=h;exact⟨σ',H',I.unwish,q⟩
 |ret u=>obtain⟨v,σ',H',I,r,q⟩:=h;exact⟨v,σ',H',I.unwish,r,q⟩
theorem PSs.nox{st:List Stmt}{t:TS}(h:PSs X.nox st t):PSs X st t:=λaA s σ H D I hw =>
 bQ (h aA s σ H D (I.wish _) hw) (λ_ _ q=>q.unwish) λ_ _ z=>False.elim z
end
section
variable{X:Cx}{st:Stmt}{aG:List Stmt}{t u:TS}{e:Expr}{te:TE}{pos:Pos}
def aoa:TS:=λD σ H=>D.nx σ H
def arl(t u:TS):TS:=λD σ H=>t {D with nx:=u D} σ H
theorem ago:PSs X [] aoa:=λ_ _ σ H _ I h=>dP ⟨σ,H,I,h⟩
theorem ad3(h1:PS X st t)(h2:PSs X aG u):PSs X (st::aG) (arl t u):=by
 intro aA s σ H D I h
 refine wpAny_execs_cons (thn (h1 aA s σ H {D with nx:=u D} I h) λf s1 q=>?_)
 cases f with
 |next =>
  obtain⟨σ',H',I',q⟩:=q;exact h2 aA s1 σ' H' D I' q
 |ret v=>exact q
 |brk=>exact q
 |cont=>exact q
theorem agp(h1:PS X st t):PSs X [st] t:=by
 intro aA s σ H D I h
 refine wpAny_execs_cons (thn (h1 aA s σ H D I h) λf s1 q=>?_)
 cases f with
 |next=>exact dP q
 |ret v=>exact q
 |brk=>exact q
 |cont=>exact q
theorem Inv.quiet(I:Inv X aA σ H s):interactive X.env=false:=by simp[interactive,I.ok.kind]
def aob(te:TE):TS:=λD σ H=>te σ H λ_ H1=>D.nx σ H1
theorem agq(he:PE X e te)(hs:swapsWith e none pos.line X.env=pure false:=by rfl):PS X (.Expr e pos) (aob te):=by
 intro aA s σ H D I h
 exact wpAny_Expr_any (thn (he aA s σ H _ I h) λv s1 ⟨x,H1,I1,r1,q1⟩=>⟨σ,H1,I1,q1⟩) I.quiet hs
def arn(te:TE):TS:=λD σ H=>te σ H D.rt
theorem ajp(he:PE X e te):PS X (.Return (some e) pos) (arn te):=by
 intro aA s σ H D I h
 exact wpAny_Return_some (thn (he aA s σ H _ I h) λv s1 ⟨x,H1,I1,r1,q1⟩=>⟨x,σ,H1,I1,r1,q1⟩)
def aro(c:TT)(t u:TS):TS:=λD σ H=>c σ H λb H1=>if b=true then t D σ H1 else u D σ H1
theorem aoc{c:Expr}{a b:List Stmt}{tc:TT}(hc:PT X c tc)(ha:PSs X a t)(hb:PSs X b u):PS X (.If c a b pos) (aro tc t u):=by
 intro aA s σ H D I h
 refine wpAny_If (thn (hc aA s σ H _ I h) λd s1 ⟨H1,I1,q1⟩=>?_)
 cases d with
 |true=>exact ha aA s1 σ H1 D I1 q1
 |false=>exact hb aA s1 σ H1 D I1 q1
end
abbrev TG:=V->St->Hp->(St->Hp->Prop)->Prop
abbrev TGs:=List V->St->Hp->(St->Hp->Prop)->Prop
def PG(X:Cx)(target:Expr)(t:TG):Prop :=
 ∀(aA:List (Addr×Obj)) (s:Shared) (σ:St) (H:Hp) (v:V) (u:Value) (Q:St->Hp->Prop),Inv X aA σ H s->RelV v u->t v σ H Q->
  wpAny (model X.prog X.w) X.A (assign target X.env u) (λ_ s'=>∃σ' H',Inv X aA σ' H' s'/\Q σ' H') X.xe s
def PGs(X:Cx)(ts:List Expr)(t:TGs):Prop :=
 ∀(aA:List (Addr×Obj)) (s:Shared) (σ:St) (H:Hp) (vs:List V) (us:List Value) (Q:St->Hp->Prop),Inv X aA σ H s->Vals vs us->t vs σ H Q->
  wpAny (model X.prog X.w) X.A (assignInOrder ((assignEach ts X.env).map (·.2)) us) (λ_ s'=>∃σ' H',Inv X aA σ' H' s'/\Q σ' H') X.xe s
abbrev ajq:=V->V->V->Hp->(Hp->Prop)->Prop
def aod(X:Cx)(t:ajq):Prop :=
 ∀(aA:List (Addr×Obj)) (s:Shared) (σ:St) (H:Hp) (o i v:V) (ov iv u:Value) (Q:Hp->Prop),Inv X aA σ H s->RelV o ov->RelV i iv->RelV v u->t o i v H Q->
  wpAny (model X.prog X.w) X.A (setItem ov iv u) (λ_ s'=>∃H',Inv X aA σ H' s'/\Q H') X.xe s
abbrev TIp:=V->V->Hp->VK->Prop
def PIp(X:Cx)(op:Operator)(t:TIp):Prop :=
 ∀(aA:List (Addr×Obj)) (s:Shared) (σ:St) (H:Hp) (x y:V) (v u:Value) (Q:VK),Inv X aA σ H s->RelV x v->RelV y u->t x y H Q->
  wpAny (model X.prog X.w) X.A (inplaceOp op v u) (EP X aA σ Q) X.xe s
section
variable{X:Cx}{pos:Pos}
def a4d(i:Nat):TG:=λv σ H Q=>Q (σ.set i (some v)) H
theorem a73(hN:X.N.Nodup)(hi:X.N[i]? = some x)(hx:Loc X.env.scope x)(hf:Hf X x:=by first|exact .inl rfl|exact .inr rfl|assumption):PG X (.Name x pos) (a4d i):=by
 intro aA s σ H v u Q I r h
 exact wpAny_assign_Name (a4b I hN hi hx r (λs' I'=>⟨_,H,I',h⟩) hf)
def aq1:TGs:=λvs σ H Q=>vs=[]/\Q σ H
def ad4(t:TG)(u:TGs):TGs:=λvs σ H Q=>∃v r,vs=v::r/\t v σ H λσ' H'=>u r σ' H' Q
theorem a9t:PGs X [] aq1:=by
 intro aA s σ H vs us Q I r h
 obtain⟨e,h⟩:=h;subst e;cases r
 exact assignInOrder_nil ⟨σ,H,I,h⟩
theorem a4e{e:Expr}{es:List Expr}{t:TG}{u:TGs}(h1:PG X e t)(h2:PGs X es u)
  (hs:(assignEach (e::es) X.env).map (·.2)=assign e X.env::(assignEach es X.env).map (·.2):=by rfl):PGs X (e::es) (ad4 t u):=by
 intro aA s σ H vs us Q I r h
 obtain⟨v,vr,e1,h⟩:=h;subst e1
 cases r with
 |cons r rr =>
  rw[hs];refine assignInOrder_cons (thn (h1 aA s σ H _ _ _ I r h) λ_ s1 ⟨σ1,H1,I1,q1⟩=>?_);exact h2 aA s1 σ1 H1 _ _ Q I1 rr q1
def xu(K:Fg)(n:Nat)(t:TGs):TG:=λv σ H Q=>∃a xs,v=.ref a/\SqT K H a xs/\xs.length=n/\t xs σ H Q
theorem aex(hc:X.calm=true)(h:PGs X es t)
  (hn:(assignEach es X.env).length=n:=by rfl) (hst:(assignEach es X.env).findIdx? (·.1)=none:=by rfl):PG X (.Tuple es k pos) (xu X.K n t):=by
 intro aA s σ H v u Q I r hw
 obtain⟨a,xs,e1,hq,hl,hw⟩:=hw;subst e1;cases r
 obtain⟨its,rv,ht,hz⟩:=I.tuple hq;refine assign_Tuple_tuple (I.ok.hd hc) ht (by simp[hn,<-hl,rv.length]) hst λh' hx=>?_
 have I1:Inv X aA σ H {s with heap:=h' }:=I.kept (t':=s.toks) λb o e=>hx b o (br (ax e)) e
 exact h aA _ σ H xs _ Q I1 (by simpa using rv) hw
def a6z(to ti:TE)(t:ajq):TG:=λv σ H Q=>to σ H λo H1=>ti σ H1 λi H2=>t o i v H2 λH3=>Q σ H3
theorem ajr{o i:Expr}{to ti:TE}{t:ajq}(ho:PE X o to)(hi:PE X i ti)(hs:aod X t)
  (ha:∀v,assign (.Subscript o i pos) X.env v=(do
   let ov <-holding [v] (eval o X.env)
   let iv <-holding [v,ov] (eval i X.env)
   standAt pos
   holding [v,ov,iv] (setItem ov iv v)
   release [v,ov,iv] []):=by intro _;rfl):PG X (.Subscript o i pos) (a6z to ti t):=by
 intro aA s σ H v u Q I r h
 rw[ha];refine a8 (cQ (thn (ho aA s σ H _ I h) λov s1 ⟨x,H1,I1,r1,q1⟩=>?_));refine a8 (cQ (thn (hi aA s1 σ H1 _ I1 q1) λiv s2 ⟨y,H2,I2,r2,q2⟩=>?_));refine a8 (wpAny_standAt (a8 (cQ (thn (hs aA s2 σ H2 x y v ov iv u _ I2 r1 r2 r q2) λ_ s3 ⟨H3,I3,q3⟩=>?_))));exact wpAny_release ⟨σ,H3,I3,q3⟩
def aoe(te:TE)(g:TG):TS:=λD σ H=>te σ H λx H1=>g x σ H1 D.nx
theorem aey{tg e:Expr}{te:TE}{g:TG}(he:PE X e te)(hg:PG X tg g)(hs:swapsWithSole [tg] e pos.line X.env=pure false:=by rfl)(hw:swappedStores [tg] e X.env=pure none:=by rfl)
  (h1:(assignEach [tg] X.env).map (·.2)=[assign tg X.env]:=by rfl):PS X (.Assign [tg] e pos) (aoe te g):=by
 intro aA s σ H D I h
 refine wpAny_Assign_stores (thn (he aA s σ H _ I h) λv s1 ⟨x,H1,I1,r1,q1⟩=>?_) hs hw;rw[h1];exact thn (hg aA s1 σ H1 x v _ I1 r1 q1) λ_ s2 q=>q
theorem ajs{i:Nat}{x:Str}{e:Expr}{te:TE}{pos':Pos}(hN:X.N.Nodup)(hi:X.N[i]? = some x)(hx:Loc X.env.scope x)(he:PE X e te)(hs:swapsWith e (some (.Name x pos')) pos.line X.env=pure false:=by rfl)(hf:Hf X x:=by first|exact .inl rfl|exact .inr rfl|assumption) :
  PS X (.Assign [.Name x pos'] e pos) (aoe te (a4d i)):=by
 intro aA s σ H D I h
 refine wpAny_Assign_Name (thn (he aA s σ H _ I h) λv s1 ⟨y,H1,I1,r1,q1⟩=>?_) hs;exact a4b I1 hN hi hx r1 (λs2 I2=>⟨_,H1,I2,q1⟩) hf
def arp(i:Nat)(te:TE)(ti:TIp):TS:=λD σ H=>∃x,σ[i]? = some (some x)/\te σ H λy H1=>ti x y H1 λz H2=>D.nx (σ.set i (some z)) H2
theorem ajt{i:Nat}{x:Str}{e:Expr}{te:TE}{op:Operator}{ti:TIp}{pos':Pos}(hN:X.N.Nodup)(hi:X.N[i]? = some x)(hx:Loc X.env.scope x)(he:PE X e te)(ho:PIp X op ti)(hf:Hf X x:=by first|exact .inl rfl|exact .inr rfl|assumption) :
  PS X (.AugAssign (.Name x pos') op e pos) (arp i te ti):=by
 intro aA s σ H D I h
 obtain⟨v,e1,h⟩:=h;obtain⟨m,hn,hl⟩:=I.loc;have vis:Vis X.env.scope x:=by rcases hx with k|k;exact .inl k;exact .inr (.inl k)
 obtain⟨u,r,l⟩:=hl i x v hi e1 vis;refine wpAny_AugAssign_Name ?_;have go:wpAny (model X.prog X.w) X.A (eval e X.env) (λw s₂=>wpAny (model X.prog X.w) X.A (inplaceOp op u w) (λr s₃=>wpAny (model X.prog X.w) X.A (storeName X.env x r) (λ_=>SP X aA D .next) X.xe s₃) X.xe s₂) X.xe s:=by
  refine thn (he aA s σ H _ I h) ?_
  rintro w s1 ⟨y,H1,I1,r1,q1⟩
  refine thn (ho aA s1 σ H1 v y u w _ I1 r r1 q1) ?_
  rintro z s2 ⟨zv,H2,I2,r2,q2⟩
  exact a4b I2 hN hi hx r2 (λs3 I3=>⟨_,H2,I3,q2⟩) hf
 rcases l with⟨hk,hm⟩|⟨hk,c,hc,hcell⟩
 ·exact wpAny_loadName_local I.ok.kind hk hn hm go
 ·rcases hk with hk|hk
  ·exact wpAny_loadName_cell I.ok.kind hk hc hcell go
  ·rcases hx with k|k
   ·have:X.env.scope.names.lookup x=some .free:=hk
    rw[k]at this;cases this
   ·have:X.env.scope.names.lookup x=some .free:=hk
    rw[k]at this;cases this
def aog(to ti te:TE)(tget:V->V->Hp->VK->Prop)(tip:TIp)(tset:ajq):TS:=λD σ H=>to σ H λo H1=>ti σ H1 λi H2=>tget o i H2 λx H3=>te σ H3 λy H4=>tip x y H4 λz H5=>tset o i z H5 λH6=>D.nx σ H6
def aq2(X:Cx)(t:V->V->Hp->VK->Prop):Prop :=
 ∀(aA:List (Addr×Obj)) (s:Shared) (σ:St) (H:Hp) (o i:V) (ov iv:Value) (Q:VK),Inv X aA σ H s->RelV o ov->RelV i iv->t o i H Q->
  wpAny (model X.prog X.w) X.A (getItem ov iv) (EP X aA σ Q) X.xe s
theorem agr{o i e:Expr}{to ti te:TE}{tget:V->V->Hp->VK->Prop}{tip:TIp}{tset:ajq}{op:Operator}{tpos:Pos}(ho:PE X o to)(hi:PE X i ti)(hg:aq2 X tget)(he:PE X e te)(hp:PIp X op tip)(hs:aod X tset)
  (ha:∀ov iv new,augStore i ov iv new=(do holding [new,ov,iv] (setItem ov iv new);release [new,ov,iv] [];pure .next):=by intros;rfl):PS X (.AugAssign (.Subscript o i tpos) op e pos) (aog to ti te tget tip tset):=by
 intro aA s σ H D I h
 refine wpAny_AugAssign_SubscriptAny (thn (ho aA s σ H _ I h) λov s1 ⟨x1,H1,I1,r1,q1⟩=>?_) ha;refine thn (hi aA s1 σ H1 _ I1 q1) ?_
 rintro iv s2 ⟨x2,H2,I2,r2,q2⟩
 refine thn (hg aA s2 σ H2 x1 x2 ov iv _ I2 r1 r2 q2) ?_
 rintro old s3 ⟨x3,H3,I3,r3,q3⟩
 refine thn (he aA s3 σ H3 _ I3 q3) ?_
 rintro v s4 ⟨x4,H4,I4,r4,q4⟩
 refine thn (hp aA s4 σ H4 x3 x4 old v _ I4 r3 r4 q4) ?_
 rintro new s5 ⟨x5,H5,I5,r5,q5⟩
 exact thn (hs aA s5 σ H5 x1 x2 x5 ov iv new _ I5 r1 r2 r5 q5) λ_ s6 ⟨H6,I6,q6⟩=>⟨σ,H6,I6,q6⟩
end
section
variable{X:Cx}{pos:Pos}
def aju(c:TT)(tb:TS):TS:=λD σ H=>∃W:Nat->St->Hp->Prop,(∃m,W m σ H)/\∀m σ H,W m σ H->
 c σ H λb H1=>if b=true then ∃N:St->Hp->Prop,(∀σ' H',N σ' H'->∃m',m'<m/\W m' σ' H')/\tb {D with nx:=N,ct:=N,bk:=D.nx} σ H1 else D.nx σ H1
theorem ad5{c:Expr}{body:List Stmt}{tc:TT}{tb:TS}(hp:PassesOwn (model X.prog X.w) X.A X.env X.xe)(hc:PT X c tc)(hb:PSs X body tb):PS X (.While c body [] pos) (aju tc tb):=by
 intro aA s σ H D I h
 obtain⟨W,⟨m0,w0⟩,turn⟩:=h;refine wpAny_While (codeAny_whileLoop (λn s'=>∃σ' H',Inv X aA σ' H' s'/\W n σ' H') ?_ m0 ⟨σ,H,I,w0⟩)
 rintro n s1 ⟨σ1,H1,I1,w1⟩
 refine cA hp (thn (hc aA s1 σ1 H1 _ I1 (turn n σ1 H1 w1)) λb s2 ⟨H2,I2,q2⟩=>?_)
 cases b with
 |true =>
  obtain⟨N,hN,q2⟩:=q2;rw[aJ rfl];refine cA hp (thn (hb aA s2 σ1 H2 _ I2 q2) λf s3 q3=>?_)
  cases f with
  |next =>
   obtain⟨σ3,H3,I3,n3⟩:=q3;obtain⟨m',hm,w3⟩:=hN σ3 H3 n3;exact⟨m',hm,σ3,H3,I3,w3⟩
  |cont =>
   obtain⟨σ3,H3,I3,n3⟩:=q3;obtain⟨m',hm,w3⟩:=hN σ3 H3 n3;exact⟨m',hm,σ3,H3,I3,w3⟩
  |brk=>exact q3
  |ret v=>exact q3
 |false =>
  rw[aY aW];exact dP ⟨σ1,H2,I2,q2⟩
end
structure It where
 go:Nat->Hp->Prop
 yld:Nat->Hp->V->Hp->Prop
 stop:Nat->Hp->Prop
def a4f(X:Cx)(aA:List (Addr×Obj))(H:Hp)(b:Addr):Prop :=
 H b=none/\b≠X.env.locals/\b∉X.fs/\(b∈X.ex\/X.s₀.heap.objs.size<=b)/\(∀x c,X.env.cells.lookup x=some c->c≠b)/\∀p∈X.pn++aA,p.1≠b
theorem Inv.fpOk(I:Inv X aA σ H s)(hb:s.heap.objs.size<=b)(hn:H' b=none):a4f X aA H' b:=by
 refine⟨hn,Nat.ne_of_gt (aN I.lt hb),I.nofs hb,.inr (bX I.sz hb),λx c e z=>?_,λp hp z=>?_⟩
 ·obtain⟨v,q⟩:=I.cell x c e;exact absurd (aN q.lt (by rw[z];exact hb)) (bR _)
 ·exact absurd (aN (ax (I.pin p hp).1) (by rw[z];exact hb)) (bR _)
structure Turn (P:Program) (w:World) (K:Fg) (tg:Expr) (J:It) (fp:List Addr) (it:Addr) (tn:Nat->Heap->Prop):Prop where
 mem:it∈fp
 obj:∀i h,tn i h->∀b∈fp,∃o,h.get? b=some o/\∀v,o.data≠.cell v
 keep:∀i h h',tn i h->(∀b∈fp,∀o,h.get? b=some o->h'.get? b=some o)->tn i h'
 item:∀(X:Cx),X.prog=P->X.w=w->X.K=K->X.calm=true->∀(i:Nat) (aA:List (Addr×Obj)) (s:Shared) (σ:St) (H:Hp) (E:Value->Shared->Prop),Inv X aA σ H s->(∀b∈fp,a4f X aA H b)->tn i s.heap->J.go i H->
  wpAny (model P w) X.A (pyNext (.ref it)) (λr s1=>∃u,r=some u /\
   wpAny (model P w) X.A (letOwnedTupleGo tg (.ref it) u) (λ_ s2=>∃x H',Inv X aA σ H' s2/\RelV x u/\J.yld i H x H'/\tn (i+1) s2.heap/\∀b∈fp,H' b=none) E s1) E s
 done:∀(X:Cx),X.prog=P->X.w=w->X.K=K->X.calm=true->∀(i:Nat) (aA:List (Addr×Obj)) (s:Shared) (σ:St) (H:Hp) (E:Value->Shared->Prop),Inv X aA σ H s->(∀b∈fp,a4f X aA H b)->tn i s.heap->J.stop i H->
  wpAny (model P w) X.A (pyNext (.ref it)) (λr s1=>r=none/\Inv X aA σ H s1) E s
 self:∀(A:Around) (i:Nat) (s:Shared) (Q:Value->Shared->Prop) (E:Value->Shared->Prop),tn i s.heap->Q (.ref it) s->wpAny (model P w) A (pyIter (.ref it)) Q E s
abbrev TI:=St->Hp->(It->Hp->Prop)->Prop
def PIE(X:Cx)(aA:List (Addr×Obj))(σ:St)(tg:Expr)(R:It->Hp->Prop)(itv:Value)(s2:Shared):Prop :=
 ∃(it:Addr) (fp:List Addr) (tn:Nat->Heap->Prop) (J:It) (H':Hp),itv=.ref it/\Inv X aA σ H' s2/\Turn X.prog X.w X.K tg J fp it tn/\tn 0 s2.heap/\(∀b∈fp,a4f X aA H' b)/\R J H'
def PI(X:Cx)(tg aF:Expr)(wi:TI):Prop :=
 ∀(aA:List (Addr×Obj)) (s:Shared) (σ:St) (H:Hp) (R:It->Hp->Prop),Inv X aA σ H s->wi σ H R->
  wpAny (model X.prog X.w) X.A (eval aF X.env) (λv s1=>wpAny (model X.prog X.w) X.A (pyIter v) (PIE X aA σ tg R) X.xe s1) X.xe s
theorem ad6{s:Shared}(ho:s.heap.get? it=some o)(hc:o.cls=.type n)(hd:o.data=.fields vs)
  (hn:["enumerate","zip","dict_itemiterator","dict_reverseitemiterator","odict_iterator","itertools.zip_longest","itertools.pairwise"].contains n=false) (hQ:Q () s):wpAny M A (letOwnedTupleGo tg (.ref it) u) Q E s:=by
 unfold letOwnedTupleGo
 cases tg<;>first
  |exact aE hQ
  | (cases u<;>first
    |exact aE hQ
    | (refine a8 (wpAny_load ho ?_)
       rw[hc,hd];show wpAny M A (if (["enumerate","zip","dict_itemiterator","dict_reverseitemiterator","odict_iterator","itertools.zip_longest","itertools.pairwise"].contains n && vs[0]? == some (rawInt _))=true then _ else _) Q E s
       rw[aY (by intro h;rw[hn,Bool.false_and]at h;cases h)]
       exact aE hQ))
def Itl(K:Fg)(a:Addr):It :=
 ⟨λi H=>∃xs x,SqL K H a xs/\xs[i]? = some x,λi H x H'=>H'=H/\∀xs,SqL K H a xs->xs[i]? = some x,λi H=>∃xs,SqL K H a xs/\xs.length<=i⟩
def Itt(K:Fg)(a:Addr):It :=
 ⟨λi H=>∃xs x,SqT K H a xs/\xs[i]? = some x,λi H x H'=>H'=H/\∀xs,SqT K H a xs->xs[i]? = some x,λi H=>∃xs,SqT K H a xs/\xs.length<=i⟩
def Itr(lo:Int)(n:Nat):It:=⟨λi _=>i<n,λi H x H'=>H'=H/\x=.int (lo+i),λi _=>n<=i⟩
theorem a9u{P:Program}{w:World}{K:Fg}{tg:Expr}(a it:Addr):Turn P w K tg (Itl K a) [it] it (λi h=>h.IsListIter it a i) where
 mem:=by simp
 obj:=λi h st b hb=>by
  have e:b=it:=by simpa using hb
  subst e;obtain⟨o,e,c,d⟩:=st;exact⟨o,e,λv z=>by rw[d]at z;cases z⟩
 keep:=λi h h' st k=>st.at λo e=>k it (by simp) o e
 item:=by
  intro X hP hw hK hc i aA s σ H E I hf st hg
  subst hP hw hK;obtain⟨xs,x,hq,hx⟩:=hg;obtain⟨its,rv,p,hz⟩:=I.list hq;obtain⟨u,hu,ru⟩:=rv.get hx;obtain⟨f0,f1,f2,f3,f4,f5⟩:=hf it (by simp)
  refine wpAny_pyNext_list_item st p.isList (x:=u) (by simpa using hu) λh' st' sb=>?_
  have I1:Inv X aA σ H {s with heap:=h' }:=I.turned (t':=s.toks) (λb o hb e=>(sb.2 b hb).trans e) f0 f1 f3 f4 f5
  obtain⟨o,e,c,d⟩:=id st';exact⟨u,rfl,ad6 (s:={s with heap:=h' }) e c d (by decide) ⟨x,H,I1,ru,⟨rfl,λys hy=>by rw[I.list_inj hy hq];exact hx⟩,st',λb hb=>(hf b hb).1⟩⟩
 done:=by
  intro X hP hw hK hc i aA s σ H E I hf st hg
  subst hP hw hK;obtain⟨xs,hq,hx⟩:=hg;obtain⟨its,rv,p,hz⟩:=I.list hq;obtain⟨f0,f1,f2,f3,f4,f5⟩:=hf it (by simp)
  have hl:=rv.length;exact wpAny_pyNext_list_end (I.ok.hd hc) st p.isList (by simp;omega) λh' eb=>⟨rfl,I.turned (t':=s.toks) (λb o hb e=>eb b o hb e) f0 f1 f3 f4 f5⟩
 self:=λ_ _ _ _ _ st h=>wpAny_pyIter_listiter st h
theorem a8x{P:Program}{w:World}{K:Fg}{tg:Expr}(a it:Addr):Turn P w K tg (Itt K a) [it] it (λi h=>h.IsTupleIter it a i) where
 mem:=by simp
 obj:=λi h st b hb=>by
  have e:b=it:=by simpa using hb
  subst e;obtain⟨o,e,c,d⟩:=st;exact⟨o,e,λv z=>by rw[d]at z;cases z⟩
 keep:=λi h h' st k=>st.at λo e=>k it (by simp) o e
 item:=by
  intro X hP hw hK hc i aA s σ H E I hf st hg
  subst hP hw hK;obtain⟨xs,x,hq,hx⟩:=hg;obtain⟨its,rv,p,hz⟩:=I.tuple hq;obtain⟨u,hu,ru⟩:=rv.get hx;obtain⟨f0,f1,f2,f3,f4,f5⟩:=hf it (by simp)
  refine wpAny_pyNext_tuple_item st (show s.heap.IsTuple a its.toArray from p) (x:=u) (by simpa using hu) λh' st' sb=>?_
  have I1:Inv X aA σ H {s with heap:=h' }:=I.turned (t':=s.toks) (λb o hb e=>(sb.2 b hb).trans e) f0 f1 f3 f4 f5
  obtain⟨o,e,c,d⟩:=id st';exact⟨u,rfl,ad6 (s:={s with heap:=h' }) e c d (by decide) ⟨x,H,I1,ru,⟨rfl,λys hy=>by rw[I.tuple_inj hy hq];exact hx⟩,st',λb hb=>(hf b hb).1⟩⟩
 done:=by
  intro X hP hw hK hc i aA s σ H E I hf st hg
  subst hP hw hK;obtain⟨xs,hq,hx⟩:=hg;obtain⟨its,rv,p,hz⟩:=I.tuple hq;obtain⟨f0,f1,f2,f3,f4,f5⟩:=hf it (by simp)
  have hl:=rv.length;exact wpAny_pyNext_tuple_end (I.ok.hd hc) st (show s.heap.IsTuple a its.toArray from p) (by simp;omega) λh' eb=>⟨rfl,I.turned (t':=s.toks) (λb o hb e=>eb b o hb e) f0 f1 f3 f4 f5⟩
 self:=λ_ _ _ _ _ st h=>wpAny_pyIter_tupleiter st h
theorem a8y{P:Program}{w:World}{K:Fg}{tg:Expr}(it:Addr)(lo:Int)(n:Nat):Turn P w K tg (Itr lo n) [it] it (λi h=>IsRangeIter h it (lo+(i:Nat)*1) ((n:Int)-(i:Nat)) 1) where
 mem:=by simp
 obj:=λi h st b hb=>by
  have e:b=it:=by simpa using hb
  subst e;exact⟨_,st,λv z=>by
   have z':Data.fields _=Data.cell v:=z
   cases z'⟩
 keep:=λi h h' st k=>k it (by simp) _ st
 item:=by
  intro X hP hw hK hc i aA s σ H E I hf st hg
  subst hP hw hK;obtain⟨f0,f1,f2,f3,f4,f5⟩:=hf it (by simp)
  have W:=Walks.range (prog:=X.prog) (w:=X.w) (I.ok.hd hc) it lo 1 n;refine W.item i s _ _ hg st λv h' tk hv st' kk=>?_;obtain⟨t,rfl⟩:=hv;have I1:Inv X aA σ H {s with heap:=h',toks:=tk}:=I.turned (λb o hb e=>kk b o (by simpa using hb) e) f0 f1 f3 f4 f5
  refine⟨_,rfl,ad6 (s:={s with heap:=h',toks:=tk}) (n := "range_iterator") st' rfl rfl (by decide) ⟨.int (lo+i),H,I1,⟨t,?_⟩,⟨rfl,rfl⟩,st',λb hb=>(hf b hb).1⟩⟩
  rw[Int.mul_one]
 done:=by
  intro X hP hw hK hc i aA s σ H E I hf st hg
  subst hP hw hK;obtain⟨f0,f1,f2,f3,f4,f5⟩:=hf it (by simp)
  exact wpAny_pyNext_range_end (I.ok.hd hc) st (by have:n<=i:=hg;omega) λh' eb=>⟨rfl,I.turned (t':=s.toks) (λb o hb e=>eb b o hb e) f0 f1 f3 f4 f5⟩
 self:=λ_ _ _ _ _ st h=>wpAny_pyIter_rangeiter st h
section
variable{X:Cx}{tg:Expr}
def aoh(K:Fg)(tl:TE):TI:=λσ H R=>tl σ H λx H1=>∃a,x=.ref a/\(∃xs,SqL K H1 a xs)/\R (Itl K a) H1
def arq(K:Fg)(tl:TE):TI:=λσ H R=>tl σ H λx H1=>∃a,x=.ref a/\(∃xs,SqT K H1 a xs)/\R (Itt K a) H1
theorem a9v{l:Expr}{tl:TE}(hl:PE X l tl):PI X tg l (aoh X.K tl):=by
 intro aA s σ H R I h
 refine thn (hl aA s σ H _ I h) ?_
 rintro v s1 ⟨x,H1,I1,r1,q1⟩
 obtain⟨a,e,⟨xs,hq⟩,q⟩:=q1;subst e;cases r1
 obtain⟨its,rv,p,hz⟩:=I1.list hq;refine et p.isList ?_;refine⟨s1.heap.objs.size,[s1.heap.objs.size],_,_,H1,rfl,I1.kept (t':=s1.toks) λb o e=>a6 _ e,a9u a _,⟨_,ay _ rfl,rfl,rfl⟩,λb hb=>?_,q⟩;have e:b=s1.heap.objs.size:=by simpa using hb
 subst e;exact I1.fpOk (ai _) (I1.hok.fresh (ai _))
theorem ajv{l:Expr}{tl:TE}(hl:PE X l tl):PI X tg l (arq X.K tl):=by
 intro aA s σ H R I h
 refine thn (hl aA s σ H _ I h) ?_
 rintro v s1 ⟨x,H1,I1,r1,q1⟩
 obtain⟨a,e,⟨xs,hq⟩,q⟩:=q1;subst e;cases r1
 obtain⟨its,rv,p,hz⟩:=I1.tuple hq;refine wpAny_pyIter_tuple (show s1.heap.IsTuple a its.toArray from p) ?_
 refine⟨s1.heap.objs.size,[s1.heap.objs.size],_,_,H1,rfl,I1.kept (t':=s1.toks) λb o e=>a6 _ e,a8x a _,⟨_,ay _ rfl,rfl,rfl⟩,λb hb=>?_,q⟩;have e:b=s1.heap.objs.size:=by simpa using hb
 subst e;exact I1.fpOk (ai _) (I1.hok.fresh (ai _))
theorem ad7{s:Shared}{lo hi:Int}{tk:Nat}(I:Inv X aA σ H s)(h1 : -(2^62)<=lo)(h2:lo<2^62)(h3 : -(2^62)<=hi)(h4:hi<2^62)
  (q:R (Itr lo (hi-lo).toNat) H):wpAny (model X.prog X.w) X.A (pyIter (.ref s.heap.objs.size)) (PIE X aA σ tg R) E {s with heap:=s.heap.push {cls:=.type "range",data:=.fields #[.int lo t,.int hi u,.int 1 v]},toks:=tk}:=by
 refine wpAny_pyIter_range (IsRange.new ..) (small_one h1 h2 h3 h4) ?_;have I1:Inv X aA σ H {s with heap:=s.heap.push {cls:=.type "range",data:=.fields #[.int lo t,.int hi u,.int 1 v]},toks:=tk}:=I.kept λb o e=>a6 _ e
 refine⟨(s.heap.push {cls:=.type "range",data:=.fields #[.int lo t,.int hi u,.int 1 v]}).objs.size,[(s.heap.push {cls:=.type "range",data:=.fields #[.int lo t,.int hi u,.int 1 v]}).objs.size],_,_,H,rfl,
  I1.kept (t':=tk) λb o e=>a6 _ e,a8y _ lo (hi-lo).toNat,?_,λb hb=>?_,q⟩
 ·have e1:lo+((0:Nat):Int)*1=lo:=by simp
  have e2:(((hi-lo).toNat:Nat):Int)-((0:Nat):Int)=Builtin.Range.rangeSize lo hi 1:=by rw[rangeSize_one];split<;>omega
  show IsRangeIter _ _ (lo+((0:Nat):Int)*1) ((((hi-lo).toNat:Nat):Int)-((0:Nat):Int)) 1;rw[e1,e2];exact ay _ rfl
 ·have e:b=(s.heap.push {cls:=.type "range",data:=.fields #[.int lo t,.int hi u,.int 1 v]}).objs.size:=by simpa using hb
  subst e;exact I1.fpOk (ai _) (I1.hok.fresh (ai _))
def aoi(ta:TA):TI:=λσ H R=>ta σ H λvs H1=>∃j:Int,vs=[.int j] /\ -(2^62)<=j/\j<2^62/\R (Itr 0 j.toNat) H1
theorem a9w{a:Expr}{ta:TA}{p pos:Pos}(hg:Gl X "range")(hm:X.mg "range" = none)(ha:PA X [a] ta)(hs:starEach [a] X.env=[(false,eval a X.env)]:=by rfl):PI X tg (.Call (.Name "range" p) [a] [] pos) (aoi ta):=by
 intro aA s σ H R I h
 refine Call_ (a5m I hg hm boot_range (cI (thn (ha pos aA s σ H _ I h) λus s1 ⟨vs,H1,I1,r1,q1⟩=>?_) hs rfl));obtain⟨j,e,q1,q2,q⟩:=q1;subst e
 cases r1 with
 |cons r rr =>
  cases rr
  obtain⟨t,rfl⟩:=r;exact call_range_1 (ad7 I1 (by omega) (by omega) q1 q2 (by simpa using q))
def ars(wi:TI)(g:TG)(tb:TS):TS:=λD σ H=>wi σ H λJ H1=>∃W:Nat->Nat->St->Hp->Prop,(∃m,W 0 m σ H1)/\∀i m σ H,W i m σ H->
 (J.stop i H/\D.nx σ H)\/(J.go i H/\∃N:St->Hp->Prop,(∀σ' H',N σ' H'->∃m',m'<m/\W (i+1) m' σ' H')/\∀x H',J.yld i H x H'->g x σ H' λσ2 H2=>tb {D with nx:=N,ct:=N,bk:=D.nx} σ2 H2)
def a1z(fp:List Addr)(h:Heap):List (Addr×Obj):=fp.filterMap λb=>(h.get? b).map λo=>(b,o)
theorem yr{h:Heap}(hb:b∈fp)(e:h.get? b=some o):(b,o)∈a1z fp h:=List.mem_filterMap.mpr ⟨b,hb,by rw[e];rfl⟩
theorem a9x(hp:p∈a1z fp h):p.1∈fp/\h.get? p.1=some p.2:=by
 obtain⟨b,hb,e⟩:=List.mem_filterMap.mp hp
 cases q:h.get? b with
 |none=>rw[q]at e;cases e
 |some o =>
  rw[q]at e;have e':(b,o)=p:=b6 e;subst e';exact⟨hb,q⟩
theorem Inv.pinned(I:Inv X aA σ H s)(hf:∀b∈fp,a4f X aA H b)(ho:∀b∈fp,∃o,s.heap.get? b=some o/\∀v,o.data≠.cell v):Inv X (aA++a1z fp s.heap) σ H s :=
 I.pins_of λp hp=>(bU.mp hp).elim (λz=>I.pin p (bb _ z)) λz=>by
  obtain⟨hb,e⟩:=a9x z;obtain⟨f0,f1,f2,_⟩:=hf p.1 hb;obtain⟨o,e',d⟩:=ho p.1 hb;rw[e]at e';cases e'
  exact⟨e,f0,f1,f2,d⟩
theorem Inv.unpinned(I:Inv X (aA++pl) σ H s):Inv X aA σ H s:=I.pins_of λp hp=>I.pin p (bb _ (dH _ hp))
theorem ajw{aF:Expr}{body:List Stmt}{wi:TI}{g:TG}{tb:TS}{pos:Pos}(hp:PassesOwn (model X.prog X.w) X.A X.env X.xe)(hc:X.calm=true)(hi:PI X tg aF wi)(hg:PG X tg g)(hb:PSs X body tb)
  (hs:∀x,foldedSetIterable aF X.env x=pure x:=by intro _;rfl):PS X (.For tg aF body [] pos) (ars wi g tb):=by
 intro aA s σ H D I h
 refine wpAny_For (thn (hi aA s σ H _ I h) λv s1 h1=>thn h1 λitv s2 h2=>?_) hs;obtain⟨it,fp,tn,J,H2,e,I2,T,st2,f2,W,⟨m0,w0⟩,turn⟩:=h2;subst e;have stat:∀{H':Hp},(∀b∈fp,H' b=none)->∀b∈fp,a4f X aA H' b:=λhn b hb=>⟨hn b hb,(f2 b hb).2⟩;refine codeAny_forLoop_any (λn s'=>∃i σ' H',Inv X aA σ' H' s'/\tn i s'.heap/\(∀b∈fp,H' b=none)/\W i n σ' H') ?_ m0 ⟨0,σ,H2,I2,st2,λb hb=>(f2 b hb).1,w0⟩
 rintro n s3 ⟨i,σ3,H3,I3,st3,fr3,w3⟩
 rcases turn i n σ3 H3 w3 with⟨stop,qn⟩|⟨go,N,hN,step⟩
 ·refine cA hp (thn (T.done X rfl rfl rfl hc i aA s3 σ3 H3 X.xe I3 (stat fr3) st3 stop) λr s4 ⟨hr,I4⟩=>?_);subst hr;exact dP ⟨σ3,H3,I4,qn⟩
 ·refine cA hp (thn (T.item X rfl rfl rfl hc i aA s3 σ3 H3 X.xe I3 (stat fr3) st3 go) λr s4 ⟨u,hr,h4⟩=>?_);subst hr;refine cA hp (thn h4 λ_ s5 ⟨x,H5,I5,r5,y5,st5,fr5⟩=>?_);have I5':=I5.pinned (stat fr5) (T.obj _ _ st5);refine cA hp (thn (hg _ s5 σ3 H5 x u _ I5' r5 (step x H5 y5)) λ_ s6 ⟨σ6,H6,I6,q6⟩=>?_);refine cA hp (thn (hb _ s6 σ6 H6 _ I6 q6) λf s7 q7=>?_);have again:∀{σ7:St} {H7:Hp},Inv X (aA++a1z fp s5.heap) σ7 H7 s7->N σ7 H7->∃m,m<n/\∃i σ' H',Inv X aA σ' H' s7/\tn i s7.heap/\(∀b∈fp,H' b=none)/\W i m σ' H':=λ{σ7 H7} I7 n7=>by
   obtain⟨m',hm,w7⟩:=hN σ7 H7 n7;refine⟨m',hm,i+1,σ7,H7,I7.unpinned,T.keep _ _ _ st5 λb hb o e=>(I7.pin (b,o) (bb _ (bb _ (yr hb e)))).1,λb hb=>?_,w7⟩;obtain⟨o,e,d⟩:=T.obj _ _ st5 b hb;exact(I7.pin (b,o) (bb _ (bb _ (yr hb e)))).2.1
  cases f with
  |next=>obtain⟨σ7,H7,I7,n7⟩:=q7;exact again I7 n7
  |cont=>obtain⟨σ7,H7,I7,n7⟩:=q7;exact again I7 n7
  |brk=>obtain⟨σ7,H7,I7,q7⟩:=q7;exact⟨σ7,H7,I7.unpinned,q7⟩
  |ret v=>obtain⟨x7,σ7,H7,I7,r7,q7⟩:=q7;exact⟨x7,σ7,H7,I7.unpinned,r7,q7⟩
end
abbrev R2:=V->V->Hp->VK->Prop
def OpR(X:Cx)(f:Value->Value->Sem Value)(r:R2):Prop :=
 ∀(aA:List (Addr×Obj)) (s:Shared) (σ:St) (H:Hp) (x y:V) (v u:Value) (Q:VK),Inv X aA σ H s->RelV x v->RelV y u->r x y H Q->
  wpAny (model X.prog X.w) X.A (f v u) (EP X aA σ Q) X.xe s
def CallR(X:Cx)(f:Value)(r:List V->Hp->VK->Prop):Prop :=
 ∀(aA:List (Addr×Obj)) (s:Shared) (σ:St) (H:Hp) (xs:List V) (us:List Value) (Q:VK),Inv X aA σ H s->Vals xs us->r xs H Q->
  wpAny (model X.prog X.w) X.A (call f us) (EP X aA σ Q) X.xe s
def art(X:Cx)(r:V->Hp->(Bool->Hp->Prop)->Prop):Prop :=
 ∀(aA:List (Addr×Obj)) (s:Shared) (σ:St) (H:Hp) (x:V) (v:Value) (Q:Bool->Hp->Prop),Inv X aA σ H s->RelV x v->r x H Q->
  wpAny (model X.prog X.w) X.A (truthy v) (TP X aA σ Q) X.xe s
def tOp(r:R2)(ta tb:TE):TE:=λσ H Q=>ta σ H λx H1=>tb σ H1 λy H2=>r x y H2 Q
def rI(C:Int->Int->Prop)(g:Int->Int->V):R2:=λx y H Q=>∃i j,x=.int i/\y=.int j/\C i j/\Q (g i j) H
def rI0(g:Int->Int->V):R2:=λx y H Q=>∃i j,x=.int i/\y=.int j/\Q (g i j) H
section
variable{X:Cx}{a b c:Expr}{ta tb tc:TE}{pos:Pos}
theorem aoj(ha:PE X a ta)(hb:PE X b tb){aA:List (Addr×Obj)}{s:Shared}{σ:St}{H:Hp}{R:V->V->Hp->Prop}(I:Inv X aA σ H s)
  (h:ta σ H λx H1=>tb σ H1 λy H2=>R x y H2) {Q:Value->Shared->Prop} {f:Value->Value->Sem Value}
  (hf:∀v u s2 x y H2,Inv X aA σ H2 s2->RelV x v->RelV y u->R x y H2->wpAny (model X.prog X.w) X.A (f v u) Q X.xe s2) :
  wpAny (model X.prog X.w) X.A (eval a X.env) (λv s₁=>wpAny (model X.prog X.w) X.A (eval b X.env) (λu s₂=>wpAny (model X.prog X.w) X.A (f v u) Q X.xe s₂) X.xe s₁) X.xe s:=by
 refine thn (ha aA s σ H _ I h) ?_
 rintro v s1 ⟨x,H1,I1,r1,q1⟩
 refine thn (hb aA s1 σ H1 _ I1 q1) ?_
 rintro u s2 ⟨y,H2,I2,r2,q2⟩
 exact hf v u s2 x y H2 I2 r1 r2 q2
theorem aok{op:Operator}{r:R2}(ho:OpR X (binaryOp op) r)(ha:PE X a ta)(hb:PE X b tb):PE X (.BinOp a op b pos) (tOp r ta tb):=by
 intro aA s σ H Q I h
 exact wpAny_BinOp (aoj ha hb I h λv u s2 x y H2 I2 rx ry q=>ho aA s2 σ H2 x y v u Q I2 rx ry q)
theorem opI{f:Value->Value->Sem Value}{C:Int->Int->Prop}{g:Int->Int->Int}
  (rule:∀(i j:Int) (t u:Tok) (s:Shared) (Q:Value->Shared->Prop) (E:Value->Shared->Prop),C i j->Q (.int (g i j) s.toks) {s with toks:=s.toks+1}->wpAny (model X.prog X.w) X.A (f (.int i t) (.int j u)) Q E s) :
  OpR X f (rI C λi j=>.int (g i j)):=by
 intro aA s σ H x y v u Q I rx ry h
 obtain⟨i,j,rfl,rfl,hc,q⟩:=h;obtain⟨t,rfl⟩:=rx;obtain⟨t',rfl⟩:=ry;exact rule i j t t' s _ _ hc ⟨.int (g i j),H,I.tok _,⟨_,rfl⟩,q⟩
theorem anp{f:Value->Value->Sem Value}{g:Int->Int->Int}
  (rule:∀(i j:Int) (t u:Tok) (s:Shared) (Q:Value->Shared->Prop) (E:Value->Shared->Prop),Q (.int (g i j) s.toks) {s with toks:=s.toks+1}->wpAny (model X.prog X.w) X.A (f (.int i t) (.int j u)) Q E s) :
  OpR X f (rI0 λi j=>.int (g i j)):=by
 intro aA s σ H x y v u Q I rx ry h
 obtain⟨i,j,rfl,rfl,q⟩:=h;obtain⟨t,rfl⟩:=rx;obtain⟨t',rfl⟩:=ry;exact rule i j t t' s _ _ ⟨.int (g i j),H,I.tok _,⟨_,rfl⟩,q⟩
theorem anq{f:Value->Value->Sem Value}{g:Int->Int->Bool}
  (rule:∀(i j:Int) (t u:Tok) (s:Shared) (Q:Value->Shared->Prop) (E:Value->Shared->Prop),Q (.bool (g i j)) s->wpAny (model X.prog X.w) X.A (f (.int i t) (.int j u)) Q E s) :
  OpR X f (rI0 λi j=>.bl (g i j)):=by
 intro aA s σ H x y v u Q I rx ry h
 obtain⟨i,j,rfl,rfl,q⟩:=h;obtain⟨t,rfl⟩:=rx;obtain⟨t',rfl⟩:=ry;exact rule i j t t' s _ _ ⟨.bl (g i j),H,I,rfl,q⟩
def aq3(i j:Int):Prop:=0<j/\j<1073741824
def aq4(i j:Int):Prop:=0<=j/\j<=1000000/\i.natAbs<2^64
def CMul(i j:Int):Prop:=(-(2^64)<i/\i<2^64)\/(-(2^64)<j/\j<2^64)
theorem CMul.ok(h:CMul i j):IntMulOk i j:=by
 rcases h with⟨h1,h2⟩|⟨h1,h2⟩
 ·exact .of_left (intBits_le_64 h1 h2)
 ·exact .of_right (intBits_le_64 h1 h2)
theorem ajx:OpR X (binaryOp .Add) (rI0 λi j=>.int (i+j)):=anp λ_ _ _ _ _ _ _ q=>add_int q
theorem ajy:OpR X (binaryOp .Sub) (rI0 λi j=>.int (i-j)):=anp λ_ _ _ _ _ _ _ q=>sub_int q
theorem ajz:OpR X (binaryOp .Mult) (rI CMul λi j=>.int (i*j)):=opI λ_ _ _ _ _ _ _ hc q=>mul_int q hc.ok
theorem ags:OpR X (binaryOp .FloorDiv) (rI aq3 λi j=>.int (i / j)):=opI λi j _ _ _ _ _ hc q=>by
 have h1:(0:Int)<j:=hc.1;have h2:j<1073741824:=hc.2;exact floordiv_int (by omega) (by rw[Int.fdiv_eq_ediv_of_nonneg i (by omega)];exact q) (.inl (PyProof.noPylong_small (by omega)))
theorem ak0:OpR X (binaryOp .Mod) (rI (λ_ j=>0<j) λi j=>.int (i%j)):=opI λi j _ _ _ _ _ hc q=>by
 have h1:(0:Int)<j:=hc;exact mod_int' (by omega) (by rw[Int.fmod_eq_emod_of_nonneg i (by omega)];exact q)
theorem ak1:OpR X (binaryOp .Pow) (rI aq4 λi j=>.int (i^j.toNat)):=opI λ_ _ _ _ _ _ _ hc q=>pow_int_small hc.1 hc.2.1 hc.2.2 q
theorem a0q:OpR X (inplaceOp .Add) (rI0 λi j=>.int (i+j)):=anp λ_ _ _ _ _ _ _ q=>iadd_int q
theorem agt:OpR X (inplaceOp .Sub) (rI0 λi j=>.int (i-j)):=anp λ_ _ _ _ _ _ _ q=>isub_int q
end
section
variable{X:Cx}{a b c:Expr}{ta tb tc:TE}{pos:Pos}
theorem a3m(I:Inv X aA σ H s)(q:Q (.bl k) H)(e:k=k'):EP X aA σ Q (.bool k') s:=by
 subst e;exact⟨.bl k,H,I,rfl,q⟩
theorem a74:OpR X (compareOp .Lt) (rI0 λi j=>.bl (decide (i<j))):=anq λ_ _ _ _ _ _ _ q=>lt_int q
theorem a5n:OpR X (compareOp .LtE) (rI0 λi j=>.bl (decide (i<=j))):=anq λ_ _ _ _ _ _ _ q=>le_int q
theorem agu:OpR X (compareOp .Gt) (rI0 λi j=>.bl (decide (j<i))):=anq λ_ _ _ _ _ _ _ q=>gt_int q
theorem aol:OpR X (compareOp .GtE) (rI0 λi j=>.bl (decide (j<=i))):=anq λ_ _ _ _ _ _ _ q=>ge_int q
theorem uc:OpR X (compareOp .Lt) (λx y H Q=>∃i j,x=.str i/\y=.str j/\Q (.bl (decide (i.cps.toList<j.cps.toList))) H):=by
 intro aA s σ H x y v u Q I rx ry h
 obtain⟨i,j,rfl,rfl,q⟩:=h;obtain⟨t,rfl⟩:=rx;obtain⟨t',rfl⟩:=ry;exact lt_str (a3m I q rfl)
theorem a9y:OpR X (compareOp .In) (λx y H Q=>∃i j,x=.str i/\y=.str j/\Q (.bl (!(Builtin.Str.occurrences j i 0 j.length 1).isEmpty)) H):=by
 intro aA s σ H x y v u Q I rx ry h
 obtain⟨i,j,rfl,rfl,q⟩:=h;obtain⟨t,rfl⟩:=rx;obtain⟨t',rfl⟩:=ry;exact in_str (a3m I q rfl)
theorem a5o:OpR X (compareOp .Is) (λx y H Q=>y=.non/\Q (.bl (decide (x=.non))) H):=by
 intro aA s σ H x y v u Q I rx ry h
 obtain⟨rfl,q⟩:=h;cases ry
 refine is_none_gen (a3m I q ?_)
 cases x<;>first
  |(cases rx;rfl)
  |(obtain⟨t,rfl⟩:=rx;rfl)
theorem a5p:OpR X (compareOp .NotIn) (λx y H Q=>∃i j,x=.str i/\y=.str j/\Q (.bl (!(!(Builtin.Str.occurrences j i 0 j.length 1).isEmpty))) H):=by
 intro aA s σ H x y v u Q I rx ry h
 obtain⟨i,j,rfl,rfl,q⟩:=h;obtain⟨t,rfl⟩:=rx;obtain⟨t',rfl⟩:=ry;exact notIn_str (a3m I q rfl)
theorem OpR.or(h:OpR X f r)(h':OpR X f r'):OpR X f (λx y H Q=>r x y H Q\/r' x y H Q):=by
 intro aA s σ H x y v u Q I rx ry q
 rcases q with q|q
 ·exact h aA s σ H x y v u Q I rx ry q
 ·exact h' aA s σ H x y v u Q I rx ry q
theorem ud(b:Expr)(h:op≠.In:=by decide)(h2:op≠.NotIn:=by decide):behindInMarks op b=false:=by
 have e1:(op == CmpOp.In)=false:=by cases op<;>first|rfl|exact absurd rfl h
 have e2:(op == CmpOp.NotIn)=false:=by cases op<;>first|rfl|exact absurd rfl h2
 cases b<;>simp[behindInMarks,e1,e2]
theorem agv(ho:OpR X (compareOp op) r)(ha:PE X a ta)(hb:PE X b tb)(hm:behindInMarks op b=false):PE X (.Compare a [op] [b] pos) (tOp r ta tb):=by
 intro aA s σ H Q I h
 exact wpAny_Compare1 (aoj ha hb I h λv u s2 x y H2 I2 rx ry q=>ho aA s2 σ H2 x y v u Q I2 rx ry q) hm
def agw(t:TE):TT:=λσ H Q=>t σ H λx H'=>∃k,x=.bl k/\Q k H'
theorem a75{op:CmpOp}{r:R2}(ho:OpR X (compareOp op) r)(ha:PE X a ta)(hb:PE X b tb)(hm:behindInMarks op b=false):PT X (.Compare a [op] [b] pos) (agw (tOp r ta tb)):=by
 intro aA s σ H Q I h
 refine wpAny_isTrue_Compare1 (thn (ha aA s σ H _ I h) λv s1 ⟨x,H1,I1,r1,q1⟩=>thn (hb aA s1 σ H1 _ I1 q1) λu s2 ⟨y,H2,I2,r2,q2⟩ =>
  thn (ho aA s2 σ H2 x y v u _ I2 r1 r2 q2) λc s3 ⟨z,H3,I3,r3,k,e,q3⟩=>?_) hm
 subst e;cases r3
 exact bL ⟨H3,I3,q3⟩
def a9z(r r':R2)(ta tb tc:TE):TE:=λσ H Q=>ta σ H λx H1=>tb σ H1 λy H2=>r x y H2 λz H3=>∃k,z=.bl k /\
 (if k=true then tc σ H3 λw' H4=>r' y w' H4 Q else Q (.bl false) H3)
theorem ad8{op op':CmpOp}{r r':R2}(ho:OpR X (compareOp op) r)(ho':OpR X (compareOp op') r')(ha:PE X a ta)(hb:PE X b tb)(hc:PE X c tc)
  (hm:lastMarks [op,op'] [b,c]=false:=by with_unfolding_all rfl):PE X (.Compare a [op,op'] [b,c] pos) (a9z r r' ta tb tc):=by
 intro aA s σ H Q I h
 refine Compare_chain (thn (ha aA s σ H _ I h) λv s1 ⟨x,H1,I1,r1,q1⟩=>chain_link (thn (hb aA s1 σ H1 _ I1 q1) λu s2 ⟨y,H2,I2,r2,q2⟩ =>
  thn (ho aA s2 σ H2 x y v u _ I2 r1 r2 q2) λd s3 ⟨z,H3,I3,r3,k,e,q3⟩=>?_)) hm
 subst e;cases r3
 refine bL ?_
 cases k with
 |false=>exact ite_ff ⟨.bl false,H3,I3,rfl,q3⟩
 |true=>exact ite_tt (chain_last (thn (hc aA s3 σ H3 _ I3 q3) λw' s4 ⟨z',H4,I4,r4,q4⟩=>ho' aA s4 σ H4 y z' u w' Q I4 r2 r4 q4))
theorem ad9{op op':CmpOp}{r r':R2}(ho:OpR X (compareOp op) r)(ho':OpR X (compareOp op') r')(ha:PE X a ta)(hb:PE X b tb)(hc:PE X c tc)
  (hm:lastMarks [op,op'] [b,c]=false:=by with_unfolding_all rfl):PT X (.Compare a [op,op'] [b,c] pos) (agw (a9z r r' ta tb tc)):=by
 intro aA s σ H Q I h
 refine isTrue_chain (thn (ha aA s σ H _ I h) λv s1 ⟨x,H1,I1,r1,q1⟩=>test_link (thn (hb aA s1 σ H1 _ I1 q1) λu s2 ⟨y,H2,I2,r2,q2⟩ =>
  thn (ho aA s2 σ H2 x y v u _ I2 r1 r2 q2) λd s3 ⟨z,H3,I3,r3,k,e,q3⟩=>?_)) hm
 subst e;cases r3
 refine bL ?_
 cases k with
 |false =>
  obtain⟨k',e',q'⟩:=q3
  cases e'
  exact ite_ff ⟨H3,I3,q'⟩
 |true =>
  refine ite_tt (test_last (thn (hc aA s3 σ H3 _ I3 q3) λw' s4 ⟨z',H4,I4,r4,q4⟩=>thn (ho' aA s4 σ H4 y z' u w' _ I4 r2 r4 q4) λd' s5 ⟨z2,H5,I5,r5,k2,e2,q5⟩=>?_));subst e2;cases r5
  exact bL ⟨H5,I5,q5⟩
def aom(K:Fg)(x:V)(H:Hp)(k:Bool):Prop :=
 match x with
 |.non=>k=false
 |.bl b=>k=b
 |.int i=>k=(i != 0)
 |.str y=>y.length<=sizeLine/\k=((y.length:Int) != 0)
 |.byt y=>y.size<=sizeLine/\k=((y.size:Int) != 0)
 |.ref p=>(∃xs,SqL K H p xs/\k = !xs.isEmpty)\/(∃xs,SqT K H p xs/\k = !xs.isEmpty)\/∃kvs,H p=some (.dK kvs)/\k = !kvs.isEmpty
 |_=>False
theorem a8z{κ:Type}{kvs:List (κ×V)}{vs:List (κ×Value)}(r:KV kvs vs):(!vs.isEmpty) = !kvs.isEmpty:=by
 cases r<;>rfl
theorem a3n(r:Vals xs its):(!its.toArray.isEmpty) = !xs.isEmpty:=by
 cases r<;>simp
theorem a1e:(sizeLine:Nat)<2^63:=by rw[eS];decide
theorem ak2:art X (λx H Q=>∃k,aom X.K x H k/\Q k H):=by
 intro aA s σ H x v Q I rx h
 obtain⟨k,e,q⟩:=h;have hl:=a1e;have hs:sizeLine=16777216:=eS
 cases x with
 |non =>
  cases rx
  have e':k=false:=e;subst e';exact truthy_none ⟨H,I,q⟩
 |bl b =>
  cases rx
  have e':k=b:=e;subst e';exact bL ⟨H,I,q⟩
 |int i =>
  obtain⟨t,rfl⟩:=rx;have e':k=(i != 0):=e;subst e';exact PySem.P.truthy_int ⟨H,I,q⟩
 |str y =>
  obtain⟨t,rfl⟩:=rx;obtain⟨hy,e'⟩:y.length<=sizeLine/\k=((y.length:Int) != 0):=e;subst e';exact PySem.P.truthy_str (by omega) ⟨H,I.tok _,q⟩
 |byt y =>
  obtain⟨t,rfl⟩:=rx;obtain⟨hy,e'⟩:y.size<=sizeLine/\k=((y.size:Int) != 0):=e;subst e';exact PySem.W.truthy_bytes (by omega) ⟨H,I.tok _,q⟩
 |ref p =>
  cases rx
  have e':(∃xs,SqL X.K H p xs/\k = !xs.isEmpty)\/(∃xs,SqT X.K H p xs/\k = !xs.isEmpty)\/∃kvs,H p=some (.dK kvs)/\k = !kvs.isEmpty:=e
  rcases e' with⟨xs,hx,e'⟩|⟨xs,hx,e'⟩|⟨kvs,hx,e'⟩
  ·subst e';obtain⟨its,r,pl,hz⟩:=I.list hx;have aH:=r.length;exact wpAny_truthy_list pl.isList (by simp only[ag];omega) ⟨H,I.tok _,by rw[a3n r];exact q⟩
  ·subst e';obtain⟨its,r,pl,hz⟩:=I.tuple hx;have aH:=r.length;exact truthy_tuple pl (by simp only[ag];omega) ⟨H,I.tok _,by rw[a3n r];exact q⟩
  ·subst e';obtain⟨hz,hS,vs,r,m⟩:kvs.length<=sizeLine/\(p == sysModules)=false/\∃vs,KV kvs vs/\s.heap.DictOf (ye X.prog X.w) p vs:=I.hok p _ hx;have aH:kvs.length=vs.length:=Paired.length r;exact wpAny_truthy_dict hS m (by omega) ⟨H,I.tok _,by rw[a8z r];exact q⟩
 |_=>exact(show False from e).elim
theorem ada(ha:PE X a ta)(he:∀whole,isTrue a X.env whole=(do let v <-whole;standAt a.pos;holding [v] (truthy v))) :
  PT X a (λσ H Q=>ta σ H λx H'=>∃k,aom X.K x H' k/\Q k H'):=by
 intro aA s σ H Q I h
 exact isTrue_plain (thn (ha aA s σ H _ I h) λv s1 ⟨x,H1,I1,r1,q1⟩=>ak2 aA s1 σ H1 x v Q I1 r1 q1) (he _)
theorem a90:OpR X (binaryOp .Add) (λx y H Q=>∃i j,x=.str i/\y=.str j/\i.length+j.length<=sizeLine/\Q (.str (i++j)) H):=by
 intro aA s σ H x y v u Q I rx ry h
 obtain⟨i,j,rfl,rfl,hz,q⟩:=h;obtain⟨t,rfl⟩:=rx;obtain⟨t',rfl⟩:=ry;exact add_str (λt' tk=>⟨.str (i++j),H,I.tok _,⟨_,rfl⟩,q⟩) hz
theorem qb:OpR X (inplaceOp .Add) (λx y H Q=>∃i j,x=.str i/\y=.str j/\i.length+j.length<=sizeLine/\Q (.str (i++j)) H):=by
 intro aA s σ H x y v u Q I rx ry h
 obtain⟨i,j,rfl,rfl,hz,q⟩:=h;obtain⟨t,rfl⟩:=rx;obtain⟨t',rfl⟩:=ry;exact iadd_str (λt' tk=>⟨.str (i++j),H,I.tok _,⟨_,rfl⟩,q⟩) hz
theorem vals1(r:Vals [x] us):∃u,us=[u]/\RelV x u:=by
 cases r with
 |cons r1 r2=>cases r2;exact⟨_,rfl,r1⟩
theorem vals2(r:Vals [x,y] us):∃u w',us=[u,w']/\RelV x u/\RelV y w':=by
 cases r with
 |cons r1 r2 =>
  cases r2 with
  |cons r3 r4=>cases r4;exact⟨_,_,rfl,r1,r3⟩
theorem a7t:CallR X (.builtin "abs") (λxs H Q=>∃i,xs=[.int i]/\Q (.int (if i<0 then -i else i)) H):=by
 intro aA s σ H xs us Q I r h
 obtain⟨i,rfl,q⟩:=h;obtain⟨u,rfl,t,rfl⟩:=vals1 r;exact call_abs_int λu tk=>⟨.int (if i<0 then -i else i),H,I.tok _,⟨_,rfl⟩,q⟩
theorem aa0(hc:X.calm=true):CallR X (.builtin "min") (λxs H Q=>∃i j,xs=[.int i,.int j]/\Q (.int (if j<i then j else i)) H):=by
 intro aA s σ H xs us Q I r h
 obtain⟨i,j,rfl,q⟩:=h;obtain⟨u,w',rfl,⟨t,rfl⟩,⟨t',rfl⟩⟩:=vals2 r;refine min_two_ints (I.ok.hd hc) λh' tk k=>⟨_,H,I.kept k,?_,q⟩
 by_cases hj:j<i
 ·rw[aJ hj,aJ hj];exact⟨_,rfl⟩
 ·rw[aY hj,aY hj];exact⟨_,rfl⟩
theorem a5q:CallR X (.type "int") (λxs H Q=>(∃i,xs=[.int i]/\Q (.int i) H)\/∃k,xs=[.bl k]/\Q (.int (if k then 1 else 0)) H):=by
 intro aA s σ H xs us Q I r h
 rcases h with⟨i,rfl,q⟩|⟨k,rfl,q⟩
 ·obtain⟨u,rfl,t,rfl⟩:=vals1 r;exact call_int_int ⟨.int i,H,I,⟨_,rfl⟩,q⟩
 ·obtain⟨u,rfl,r1⟩:=vals1 r;cases r1
  exact call_int_bool ⟨.int (if k then 1 else 0),H,I.tok _,⟨_,rfl⟩,q⟩
theorem adb:CallR X (.builtin "ord") (λxs H Q=>∃x,xs=[.str x]/\x.length=1/\Q (.int (x.cps.getD 0 0:Nat)) H):=by
 intro aA s σ H xs us Q I r h
 obtain⟨x,rfl,hz,q⟩:=h;obtain⟨u,rfl,t,rfl⟩:=vals1 r;exact ord_of_one hz ⟨.int _,H,I.tok _,⟨_,rfl⟩,q⟩
end
structure ObjM (h:Heap) (x dx C:Addr) (mA:Str->Option Value):Prop where
 obj:h.get? x=some (PySem.W.instObj C dx)
 ns:h.Ns1 dx mA
 ne:dx≠x
theorem aa1{h:Heap}(n:h.Ns1 dx mA):∃od,h.get? dx=some od/\∀name,PySem.W.lookIn name od=some (mA name):=by
 obtain⟨o,es,ep,ho,hd,hk,_,hm⟩:=n;refine⟨o,ho,λname=>?_⟩;have e:=hm name;unfold nsFind findBy at e;rw[<-Array.find?_toList]at e;unfold PySem.W.lookIn;rw[hd];dsimp only
 split
 ·rename_i y q;rw[q]at e;exact ah some e
 ·rename_i q;rw[q]at e;have a:es.toList.any (·.refKey)=false:=by
   rw[List.any_eq_false]
   intro y hy
   obtain⟨z,t,hkey⟩:=hk y (Array.mem_toList_iff.mp hy);simp[DictEntry.refKey,hkey]
  have a':¬ es.toList.any (·.refKey)=true:=by rw[a];exact aW
  rw[aY a'];exact ah some e
theorem ObjM.look(I:ObjM h x dx C mA):∃od,PySem.W.InstAt h x (PySem.W.instObj C dx) C (some od)/\∀name,PySem.W.lookIn name od=some (mA name) :=
 let ⟨od,ho,hl⟩:=aa1 I.ns
 ⟨od,⟨I.obj,rfl,rfl,ho⟩,hl⟩
theorem RelO.some_of(r:RelO (some v) o):∃u,o=some u/\RelV v u:=by
 cases o with
 |none=>exact(show False from r).elim
 |some u=>exact⟨u,rfl,r⟩
section
variable{P:Program}{w:World}{H H':Hp}{h h':Heap}{a C dx:Addr}{fs fs':List (Str×V)}
theorem agx(hok:HOk P w H h)(e:H a=some (.ins C dx fs)):∃mA,ObjM h a dx C mA/\(∀f,RelO (fs.lookup f) (mA f))/\PySem.Within mA (fs.map (·.1))/\fs.length<=1000/\H dx=some (.own a):=by
 obtain⟨d,z,ne,ob,mA,n,r,q⟩:=(show ObjOk P w H h a (.ins C dx fs) from hok a _ e)
 exact⟨mA,⟨ob,n,ne⟩,r,q,z,d⟩
end
structure Cls (K:Fg) (C:Addr):Prop where
 pg:PySem.W.plainGet K C Str.empty=true
 hd:PySem.W.hasDictIn K C=true
 po:PySem.W.plainOver K C=true
 sa:PySem.W.findIn K (.ref C) "__setattr__" = some (some (.builtin "object.__setattr__"))
theorem Cls.get{K:Fg}{C:Addr}(c:Cls K C)(f:Str):PySem.W.plainGet K C f=true:=c.pg
section
variable{X:Cx}{aA:List (Addr×Obj)}{σ:St}{H:Hp}{s:Shared}{A:Around}{E:Value->Shared->Prop}{Q:Value->Shared->Prop}{c:Value}{b:Bool}
inductive TyOf (K:Fg) (H:Hp):V->Value->Prop where
 |non:TyOf K H .non (.type "NoneType")
 |bl (x:Bool):TyOf K H (.bl x) (.type "bool")
 |int (i:Int):TyOf K H (.int i) (.type "int")
 |str (x:Str):TyOf K H (.str x) (.type "str")
 |flt (x:UInt64):TyOf K H (.flt x) (.type "float")
 |lst {a:Addr} {xs:List V} (e:H a=some (.lst xs)):TyOf K H (.ref a) (.type "list")
 |frz {a:Addr} {o:Obj} {xs:List V} (e:H a=some (.frz o (.lst xs))):TyOf K H (.ref a) (.type "list")
 |tup {a:Addr} {xs:List V} (e:H a=some (.tup xs)):TyOf K H (.ref a) (.type "tuple")
 |dK {a:Addr} {kvs:List (Key×V)} (e:H a=some (.dK kvs)):TyOf K H (.ref a) (.type "dict")
 |dT {a:Addr} {kvs:List (List Key×V)} (e:H a=some (.dT kvs)):TyOf K H (.ref a) (.type "dict")
 | ins {a C dx:Addr} {fs:List (Str×V)} (e:H a=some (.ins C dx fs)) (cl:Cls K C) (ha:PySem.W.findIn K (.ref C) "__class__" = some (some (.builtin "object.__class__")))
   (hn:PySem.W.specialIn K (.builtin "object.__class__") "__get__" = some (some (.builtin "getset_descriptor.__get__"))) (htk:PySem.W.takesIn K (.builtin "object.__class__")=some true)
   (hm:PySem.W.mroIn K C (.type "object")=some true):TyOf K H (.ref a) (.ref C)
theorem aa2(I:Inv X aA σ H s)(rx:RelV x u)(ty:TyOf X.K H x t)(e:PySem.W.kitOne X.K t c=some b)(h:∀tk,Q (.bool b) {s with toks:=tk}) :
  wpAny (model X.prog X.w) A (call (.builtin "isinstance") [u,c]) Q E s:=by
 cases ty with
 |non=>cases (show u=Value.none from rx);exact bt PySem.W.kitx_none I.kIn True.intro e (λz=>nomatch z) h
 |bl y=>cases (show u=Value.bool y from rx);exact bt PySem.W.kitx_bool I.kIn True.intro e (λz=>nomatch z) h
 |int i=>obtain⟨t,q⟩:=(show ∃t,u=Value.int i t from rx);cases q;exact bt PySem.W.kitx_int I.kIn True.intro e (λz=>nomatch z) h
 |str y=>obtain⟨t,q⟩:=(show ∃t,u=Value.str y t from rx);cases q;exact bt PySem.W.kitx_str I.kIn True.intro e (λz=>nomatch z) h
 |flt y=>obtain⟨t,q⟩:=(show ∃t,u=Value.float y t from rx);cases q;exact bt PySem.W.kitx_float I.kIn True.intro e (λz=>nomatch z) h
 |@lst a xs ea =>
  cases (show u=Value.ref a from rx)
  obtain⟨_,_,n,_,h1⟩:=(show ObjOk X.prog X.w H s.heap a (.lst xs) from I.hok a _ ea)
  exact bt PySem.W.kitx_list I.kIn ⟨_,h1,rfl⟩ e (λz=>nomatch z) h
 |@frz a ob xs ea =>
  cases (show u=Value.ref a from rx)
  obtain⟨_,_,_,n,_,h1⟩:=(show ObjOk X.prog X.w H s.heap a (.frz ob (.lst xs)) from I.hok a _ ea)
  exact bt PySem.W.kitx_list I.kIn ⟨_,h1,rfl⟩ e (λz=>nomatch z) h
 |@tup a xs ea =>
  cases (show u=Value.ref a from rx)
  obtain⟨_,_,_,p⟩:=(show ObjOk X.prog X.w H s.heap a (.tup xs) from I.hok a _ ea)
  obtain⟨o,h1,h2,_⟩:=p;exact bt PySem.W.kitx_tuple I.kIn ⟨o,h1,h2.1⟩ e (λz=>nomatch z) h
 |@dK a kvs ea =>
  cases (show u=Value.ref a from rx)
  obtain⟨_,_,vs,_,p⟩:=(show ObjOk X.prog X.w H s.heap a (.dK kvs) from I.hok a _ ea)
  obtain⟨o,es,ep,h1,h2,_⟩:=p;exact bt eu I.kIn ⟨o,h1,h2.1⟩ e (λz=>nomatch z) h
 |@dT a kvs ea =>
  cases (show u=Value.ref a from rx)
  obtain⟨_,_,xs,_,o,es,ep,h1,h2,_⟩:=(show ObjOk X.prog X.w H s.heap a (.dT kvs) from I.hok a _ ea)
  exact bt eu I.kIn ⟨o,h1,h2.1⟩ e (λz=>nomatch z) h
 |@ins a C dx fs ea cl ha hn htk hm =>
  cases (show u=Value.ref a from rx)
  obtain⟨mA,O,_⟩:=agx I.hok ea;obtain⟨od,J,_⟩:=O.look;exact bt (PySem.W.kitx_own (cl.get _) cl.hd ha hn htk hm) I.kIn J e (λz=>nomatch z) h
end
structure Room (k:Nat) (A:Around):Prop where
 hd:A.handled=none
 dp:A.depth+3*k+5<recursionLimit
 un:A.units+16*k+200<cLine
 gd:A.guards=some []
theorem Room.mono(r:Room k A)(h:j<=k):Room j A:=⟨r.hd,by have:=r.dp;omega,by have:=r.un;omega,r.gd⟩
theorem Room.deeper(r:Room (k+1) A)(env:Env):Room k (A.deeper env) :=
 ⟨r.hd,by have:=r.dp;show A.depth+1+3*k+5<_;omega,by have:=r.un;show A.units+3+16*k+200<_;omega,r.gd⟩
theorem Room.depth(r:Room k A):A.depth<recursionLimit:=by have:=r.dp;omega
theorem Room.units(r:Room k A):A.units+64<cLine:=by have:=r.un;omega
def aq5:TA:=λ_ H Q=>Q [] H
def aon(ta:TE)(tr:TA):TA:=λσ H Q=>ta σ H λx H1=>tr σ H1 λxs H2=>Q (x::xs) H2
section
variable{X:Cx}{e:Expr}{es:List Expr}{te:TE}{t:TA}{pos:Pos}
theorem a7u:PA X [] aq5:=λ_ _ _ _ H Q I h=>Calls.spliced_nil ⟨[],H,I,.nil,h⟩
theorem a2a(ha:PE X e te)(hr:PA X es t)(hs:starEach (e::es) X.env=(false,eval e X.env)::starEach es X.env:=by rfl):PA X (e::es) (aon te t):=by
 intro pos aA s σ H Q I h
 rw[hs];show wpAny _ _ (spliced ((false,eval e X.env)::backTo pos (starEach es X.env))) _ _ s;refine Calls.spliced_cons (thn (ha aA s σ H _ I h) λu s1 ⟨x,H1,I1,r1,q1⟩=>?_);exact thn (hr pos aA s1 σ H1 _ I1 q1) λus s2 ⟨xs,H2,I2,r2,q2⟩=>⟨x::xs,H2,I2,.cons r1 r2,q2⟩
def aru(t:TA):TE:=λσ H Q=>t σ H λxs H1=>xs.length<=sizeLine/\∀p,H1 p=none->Q (.ref p) (upd H1 p (.tup xs))
def arv(t:TA):TE:=λσ H Q=>t σ H λxs H1=>xs.length<=sizeLine/\∀p,H1 p=none->Q (.ref p) (upd H1 p (.lst xs))
theorem ak3{x1}(h:PA X es t):PE X (.Tuple es x1 pos) (aru t):=by
 intro aA s σ H Q I hq
 refine wpAny_Tuple_spliced (thn (h pos aA s σ H _ I hq) λus s1 ⟨xs,H1,I1,r,z,q⟩=>⟨by rw[<-r.length];exact z,?_⟩)
 have hf:H1 s1.heap.objs.size=none:=I1.hok.fresh (ai _);refine⟨.ref s1.heap.objs.size,upd H1 s1.heap.objs.size (.tup xs),I1.laid (t':=s1.toks) (λb u e=>a6 _ e) (ai _) ?_,rfl,q _ hf⟩;exact⟨z,us,r,⟨_,ay _ rfl,⟨rfl,rfl⟩,_,rfl⟩⟩
theorem ak4(h:PA X es t):PE X (.List es pos) (arv t):=by
 intro aA s σ H Q I hq
 refine wpAny_List_spliced (thn (h pos aA s σ H _ I hq) λus s1 ⟨xs,H1,I1,r,z,q⟩=>⟨by rw[<-r.length];exact z,?_⟩)
 have hf:H1 s1.heap.objs.size=none:=I1.hok.fresh (ai _);refine⟨.ref s1.heap.objs.size,upd H1 s1.heap.objs.size (.lst xs),I1.laid (t':=s1.toks) (λb u e=>a6 _ e) (ai _) ?_,rfl,q _ hf⟩;exact⟨z,us,0,r,ay _ rfl⟩
end
abbrev Sp:=List V->Hp->VK->XK->Prop
abbrev CXT:=List Env->Hp->Shared->XK->Value->Shared->Prop
structure Env0 (P:Program) (w:World) (K:Fg) (mg:Str->Option Value) (base:Heap) (A:Around) (outer:List Env) (s:Shared) (H:Hp):Prop where
 frames:A.frames=some outer
 mod:Mod K mg base
 bs:∀b o,base.get? b=some o->s.heap.get? b=some o/\H b=none
 bsz:base.objs.size<=s.heap.objs.size
 funs:s.heap.FunFrames base outer
 frf:∀b∈frs outer,H b=none
 hok:HOk P w H s.heap
 bare:AllBare s.gens
def CE(outer:List Env)(P:Program)(w:World)(H:Hp)(s:Shared)(Q:VK)(u:Value)(s':Shared):Prop :=
 ∃v H',s'.os=s.os/\AllBare s'.gens/\Un (frs outer) [] H H' s.heap s'.heap/\HOk P w H' s'.heap/\RelV v u/\Q v H'
def CR(CX:CXT)(outer:List Env)(P:Program)(w:World)(H:Hp)(s:Shared)(Q:VK)(E:XK)(r:Result)(s':Shared):Prop :=
 match r with
 |.ok (.ret u)=>CE outer P w H s Q u s'
 |.ok _=>False
 |.error e=>CX outer H s E e s'
structure FnOk (P:Program) (w:World) (K:Fg) (mg:Str->Option Value) (base:Heap) (CX:CXT) (k:Nat) (f:Addr) (fd:FuncData) (ps:List Str) (sp:Sp):Prop where
 len:∀vs H Q E,sp vs H Q E->vs.length=ps.length
 run:∀(A:Around) (outer:List Env) (s:Shared) (H:Hp) (args:Args) (us:List Value) (vs:List V) (Q:VK) (E:XK),Room k A->Env0 P w K mg base A outer s H->BindsTo s fd args (ps.zip us)->Vals vs us->sp vs H Q E->
  codeAny (model P w) A (.call (.ref f) args) (CR CX outer P w H s Q E) s
theorem FnOk.imp{P:Program}{w:World}{K:Fg}{mg:Str->Option Value}{base:Heap}{CX:CXT}{k:Nat}{f:Addr}{fd:FuncData}{ps:List Str}{sp sp':Sp}(F:FnOk P w K mg base CX k f fd ps sp)
  (h:∀vs H Q E,sp' vs H Q E->sp vs H Q E):FnOk P w K mg base CX k f fd ps sp' :=
 ⟨λvs H Q E q=>F.len vs H Q E (h _ _ _ _ q),λA outer s H args us vs Q E hr he hb hv hs=>F.run A outer s H args us vs Q E hr he hb hv (h _ _ _ _ hs)⟩
section
variable{X:Cx}{aA:List (Addr×Obj)}{σ:St}{H:Hp}{s s':Shared}
theorem Inv.env0(I:Inv X aA σ H s):Env0 X.prog X.w X.K X.mg X.base X.A X.stack s H :=
 ⟨I.ok.frames,I.ok.mod,I.bs,bX I.ok.bsz I.sz,I.stack,I.stkFree,I.hok,I.bare⟩
theorem Inv.after(I:Inv X aA σ H s)(h:CE X.stack X.prog X.w H s Q u s'):EP X aA σ Q u s':=by
 obtain⟨v,H',os,bare,un,hok,r,q⟩:=h;obtain⟨hh,g,d,t,os'⟩:=s';obtain rfl:os'=s.os:=os;exact⟨v,H',I.call (h':=hh) (g':=g) (d':=d) (t':=t) (ch:=[]) un hok bare (λb z=>absurd z (by simp)),r,q⟩
end
def ak5(sp:Sp)(dvs:List V)(E:XK)(t:TA):TE:=λσ H Q=>t σ H λvs H1=>sp (vs++dvs) H1 Q E
def Binds(K:Fg)(fd:FuncData)(ps:List Str)(ds:List Value):Prop :=
 ∀(s:Shared) (us:List Value),K.In s.heap->(us++ds).length=ps.length->BindsTo s fd ⟨us,[]⟩ (ps.zip (us++ds))
theorem Binds.all{K:Fg}{fd:FuncData}{ps:List Str}(h:∀us:List Value,us.length=ps.length->bindArgs fd ⟨us,[]⟩=pure (ps.zip us)):Binds K fd ps []:=λs us _ hl=>by
 rw[bp]at hl ⊢;exact .of_eq (h us hl)
def a7v(CX:CXT)(X:Cx)(E:XK):Prop:=∀(aA:List (Addr×Obj)) (σ:St) (H:Hp) (s:Shared) (e:Value) (s':Shared),Inv X aA σ H s->CX X.stack H s E e s'->X.xe e s'
section
variable{X:Cx}{CX:CXT}{k:Nat}{f C:Addr}{fd:FuncData}{ps:List Str}{sp:Sp}{dvs:List V}{ds:List Value}{E:XK}{x m:Str}{p pos apos:Pos}{e o:Expr}{es:List Expr}{ta:TE}{t:TA}
theorem aez(F:FnOk X.prog X.w X.K X.mg X.base CX k f fd ps sp)(hr:Room k X.A)(hb:Binds X.K fd ps ds)(hd:Vals dvs ds)(hx:a7v CX X E)
  (I:Inv X aA σ H s) (r:Vals vs us) (h:sp (vs++dvs) H Q E):wpAny (model X.prog X.w) X.A (call (.ref f) us) (EP X aA σ Q) X.xe s:=by
 have r2:Vals (vs++dvs) (us++ds):=r.append hd;have hl:(us++ds).length=ps.length:=by rw[<-r2.length];exact F.len _ _ _ _ h
 refine wpAny_call (dY (F.run X.A X.stack s H ⟨us,[]⟩ (us++ds) (vs++dvs) Q E hr I.env0 (hb s us I.kIn hl) r2 h) λr s' hq=>?_)
 cases r with
 |error e=>exact hx aA σ H s e s' I hq
 |ok fl =>
  cases fl with
  |ret u=>exact I.after hq
  |next=>exact False.elim hq
  |brk=>exact False.elim hq
  |cont=>exact False.elim hq
theorem agy(F:FnOk X.prog X.w X.K X.mg X.base CX k f fd ps sp)(hr:Room k X.A)(hg:Gl X x)(hm:X.mg x=some (.ref f))(hk:PySem.W.keepIn X.K (.ref f)=true)(hb:Binds X.K fd ps ds)(hd:Vals dvs ds)(hx:a7v CX X E)
  (ha:PA X (e::es) t) (hdb:(x == ("__debug__" : Str))=false:=by decide) (he:starEach (e::es) X.env=(false,eval e X.env)::starEach es X.env:=by rfl) (hpl:(backTo pos (starEach es X.env)).any (·.1)=false:=by rfl) :
  PE X (.Call (.Name x p) (e::es) [] pos) (ak5 sp dvs E t):=by
 intro aA s σ H Q I h
 refine cG (a72 I hg hm ?_ hdb);refine PySem.W.callWith_K (h₀:=X.base) I.ok.mod.kin hk (thn (ha pos aA s σ H _ I h) λus s1 ⟨vs,H1,I1,r,q⟩=>⟨I1.kIn,?_⟩) he hpl;exact aez F hr hb hd hx I1 r q
theorem adc(F:FnOk X.prog X.w X.K X.mg X.base CX k f fd ps sp)(hr:Room k X.A)(hg:Gl X x)(hm:X.mg x=some (.ref f))(hk:PySem.W.keepIn X.K (.ref f)=true)(hb:Binds X.K fd ps ds)(hd:Vals dvs ds)(hx:a7v CX X E)
  (hdb:(x == ("__debug__" : Str))=false:=by decide):PE X (.Call (.Name x p) [] [] pos) (ak5 sp dvs E aq5):=by
 intro aA s σ H Q I h
 refine cG (a72 I hg hm ?_ hdb);exact PySem.W.callWith_K0 I.kIn hk (aez (us:=[]) F hr hb hd hx I .nil h)
end
structure FnScope (N P:List Str) (sc:Scope):Prop where
 kind:sc.kind=.function
 co:sc.isCoroutine=false
 gen:sc.isGenerator=false
 nd:N.Nodup
 pre:N.take P.length=P
 par:∀x∈P,sc.names.lookup x=some .local\/sc.names.lookup x=some .cell
 nofree:∀y∈sc.names,y.2≠.free
theorem a5r{kindOf:Str->Option NameKind}{x:Str}:∀{binds:List (Str×Value)} {m:Str->Option Value},(∀v,(x,v)∉binds)->bindL kindOf binds m x=m x
 |[],_,_=>rfl
 |(n,v)::r,m,h=>by
  unfold bindL;rw[a5r λw hw=>h w (aR _ hw)]
  split
  ·have:x≠n:=by rintro rfl;exact h v aV
   simp[this]
  ·rfl
theorem a5s{kindOf:Str->Option NameKind}{x:Str}:∀{binds:List (Str×Value)} {m:Str->Option Value},(∀v,(x,v)∉binds)->bindC kindOf binds m x=m x
 |[],_,_=>rfl
 |(n,v)::r,m,h=>by
  unfold bindC;rw[a5s λw hw=>h w (aR _ hw)]
  split
  ·rfl
  ·have:x≠n:=by rintro rfl;exact h v aV
   simp[this]
theorem a5t{kindOf:Str->Option NameKind}{x:Str}{v:Value}:∀{P:List Str} {vs:List Value} {i:Nat} {m:Str->Option Value},P.Nodup->P[i]? = some x->vs[i]? = some v->kindOf x=some .local->
  bindL kindOf (P.zip vs) m x=some v
 |[],_,_,_,_,h,_,_=>by simp at h
 |_::_,[],_,_,_,_,h,_=>by simp at h
 |p::P,w::vs,0,m,nd,h1,h2,hk=>by
  simp at h1 h2;subst h1;subst h2
  show bindL kindOf ((p,w)::P.zip vs) m p=_;unfold bindL;rw[a5r λv hv=>(cJ.mp nd).1 (eK hv).1,aJ hk];simp
 |p::P,w::vs,i+1,m,nd,h1,h2,hk=>by
  show bindL kindOf ((p,w)::P.zip vs) m x=_;unfold bindL;exact a5t (i:=i) (cJ.mp nd).2 (by simpa using h1) (by simpa using h2) hk
theorem a5u{kindOf:Str->Option NameKind}{x:Str}{v:Value}:∀{P:List Str} {vs:List Value} {i:Nat} {m:Str->Option Value},P.Nodup->P[i]? = some x->vs[i]? = some v->kindOf x≠some .local->
  bindC kindOf (P.zip vs) m x=some v
 |[],_,_,_,_,h,_,_=>by simp at h
 |_::_,[],_,_,_,_,h,_=>by simp at h
 |p::P,w::vs,0,m,nd,h1,h2,hk=>by
  simp at h1 h2;subst h1;subst h2
  show bindC kindOf ((p,w)::P.zip vs) m p=_;unfold bindC;rw[a5s λv hv=>(cJ.mp nd).1 (eK hv).1,aY hk];simp
 |p::P,w::vs,i+1,m,nd,h1,h2,hk=>by
  show bindC kindOf ((p,w)::P.zip vs) m x=_;unfold bindC;exact a5u (i:=i) (cJ.mp nd).2 (by simpa using h1) (by simpa using h2) hk
def start(N:List Str)(vs:List V):St:=vs.map some++List.replicate (N.length-vs.length) none
def acr(CX:CXT)(P:Program)(w:World)(K:Fg)(mg:Str->Option Value)(base:Heap)(N:List Str)(qual:Str)(aB:Scope)(f:Addr)(cd:Value)(A:Around)(outer:List Env)(s:Shared)(H:Hp)(E:XK):Cx where
 prog:=P
 w:=w
 K:=K
 mg:=mg
 base:=base
 A:=A.deeper (envOfC qual aB s.heap.objs.size f cd)
 N:=N
 s₀:=s
 H₀:=H
 env:=envOfC qual aB s.heap.objs.size f cd
 outer:=outer
 stack:=envOfC qual aB s.heap.objs.size f cd::outer
 ex:=[]
 calm:=true
 fn:=λ_=>true
 pn:=[]
 xe:=λe s'=>wpAny (model P w) (A.deeper (envOfC qual aB s.heap.objs.size f cd)) (leaving (envOfC qual aB s.heap.objs.size f cd) e) (λ_ s''=>CX outer H s E e s'') (λe' s''=>CX outer H s E e' s'') s'
theorem a7w{sc:Scope}(h:sc.names.lookup x=some .cell):∃c,(cellsFrom n sc.names []).lookup x=some c:=by
 have q:=PySem.W.cellsFrom_some sc.names n [] (.inl h);exact eA.mp q
theorem aa3{CX:CXT}{P:Program}{w:World}{K:Fg}{mg:Str->Option Value}{base:Heap}{N ps:List Str}{qual:Str}{aB:Scope}{f:Addr}{cd:Value}{A:Around}{outer:List Env}{s s1:Shared}{H:Hp}{E:XK}{us:List Value}{vs:List V}
  (S:FnScope N ps aB) (hd:A.handled=none) (e0:Env0 P w K mg base A outer s H) (hl:vs.length=ps.length) (r:Vals vs us)
  (x:InCallC s s.heap.objs.size (bindL (envOfC qual aB s.heap.objs.size f cd).kindOf (ps.zip us) λ_=>none) (cellsFrom (s.heap.objs.size+1) aB.names []) (bindC (envOfC qual aB s.heap.objs.size f cd).kindOf (ps.zip us) λ_=>none) s1) :
  Inv (acr CX P w K mg base N qual aB f cd A outer s H E) [] (start N vs) H s1:=by
 have hpl:ps.length<=N.length:=by have:=ah List.length S.pre;rw[bE]at this;omega
 obtain⟨h1,tk,rfl,hk⟩:=x.done;have noA:∀b:Addr,b∉(acr CX P w K mg base N qual aB f cd A outer s H E).ex:=λb z=>absurd (show b∈([]:List Addr) from z) (by simp)
 refine⟨⟨e0.mod,S.kind,rfl,rfl,ai _,λy z c h1 h2=>?_,λy hy=>?_,λy c _ h=>?_,λ_=>hd,Around.frames_deeper e0.frames,.inr ⟨rfl,rfl⟩,λb z=>absurd z (noA b),e0.bs,e0.bsz,λb _ _=>noA b,λb z=>absurd z (noA b),e0.funs,e0.frf⟩,
  rfl,e0.bare,Un.kept hk,⟨_,x.toInCall.ns,λi y v h1 h2 h3=>?_⟩,λy c h=>⟨_,x.cell y c h⟩,e0.hok.fresh (ai _),λy c h=>?_,λp hp=>absurd (show p∈([]:List (Addr×Obj)) from hp) (by simp),e0.hok.kept hk,?_⟩
 ·exact name_of_addr x.apart (bA h1) (bA h2)
 ·have hy:aB.names.lookup y=some .cell\/aB.names.lookup y=some .free:=hy
  rcases hy with hy|hy
  ·exact a7w hy
  ·exact absurd rfl (S.nofree _ (bA hy))
 ·exact Nat.le_of_lt (x.above y c (bA h))
 ·have hi:i<vs.length:=by
   unfold start at h2
   by_cases hi:i<vs.length
   ·exact hi
   ·rw[ar (by simpa using hi)]at h2
    rw[cC]at h2
    split at h2<;>cases h2
  have ha:vs[i]? = some v:=by
   unfold start at h2;rw[aI (by simpa using hi),bM]at h2
   cases e:vs[i]? with
   |none=>rw[e]at h2;cases h2
   |some a=>rw[e]at h2;cases h2;rfl
  obtain⟨u,hu,rv⟩:=r.get ha;have hp:ps[i]? = some y:=by
   rw[<-S.pre,List.getElem?_take_of_lt (by omega)];exact h1
  have ndP:ps.Nodup:=by rw[<-S.pre];exact S.nd.sublist (List.take_sublist _ _)
  refine⟨u,rv,?_⟩
  rcases S.par y (aZ hp) with k|k
  ·exact .inl ⟨k,a5t ndP hp hu k⟩
  ·obtain⟨c,e⟩:=a7w (n:=s.heap.objs.size+1) k;refine .inr ⟨.inl k,c,e,?_⟩;have q:=x.cell y c e;rw[a5u ndP hp hu (by show aB.names.lookup y≠_;rw[k];decide)]at q
   exact q
 ·exact e0.hok.fresh (Nat.le_of_lt (x.above y c (bA h)))
 ·unfold start;show _=N.length;rw[a9,aS,cK];omega
theorem aoo{CX:CXT}{P:Program}{w:World}{K:Fg}{mg:Str->Option Value}{base:Heap}{k:Nat}{f:Addr}{name qual:Str}{params:Arguments}{body:List Stmt}{aB:Scope}{dV kV doc pm cdv ct oc:Value}{an od:Option Addr}
  {osl:Array (Option Value)} {N ps:List Str} {sp:Sp} (lk:K.lookup f=some ⟨oc,od,.func (PySem.W.fnOf name qual params body aB dV kV doc pm an cdv ct),osl⟩) (hcd:PySem.W.codeIn K cdv qual=true) (S:FnScope N ps aB)
  (len:∀vs H Q E,sp vs H Q E->vs.length=ps.length)
  (hbody:∀(A:Around) (outer:List Env) (s:Shared) (H:Hp) (vs:List V) (Q:VK) (E:XK),Room k (A.deeper (envOfC qual aB s.heap.objs.size f cdv))->sp vs H Q E->
   ∃t,PSs (acr CX P w K mg base N qual aB f cdv A outer s H E) body t/\t {nx:=λ_ H'=>Q .non H',rt:=Q} (start N vs) H) :
  FnOk P w K mg base CX (k+1) f (PySem.W.fnOf name qual params body aB dV kV doc pm an cdv ct) ps sp:=by
 refine⟨len,λA outer s H args us vs Q E hr e0 hb r hsp=>?_⟩;have hl:=len _ _ _ _ hsp;have KX:K.In s.heap:=e0.mod.kin.keeps λb o e=>(e0.bs b o e).1;have lim:s.heap.NoLimit:=e0.mod.nolimit.keeps λb o e=>(e0.bs b o e).1;have hkind:∀y∈ps.zip us,aB.names.lookup y.1=some .local\/(aB.names.lookup y.1=some .cell/\((cellsFrom (s.heap.objs.size+1) aB.names []).lookup y.1).isSome=true):=λ⟨n,v⟩ hy=>by
  rcases S.par n (eK hy).1 with q|q
  ·exact .inl q
  ·exact .inr ⟨q,PySem.W.cellsFrom_some _ _ _ (.inl q)⟩
 refine codeAny_call_function hr.depth (KX _ _ lk) rfl S.co S.gen rfl (PySem.W.codeRec_of KX hcd) (hb _ _ _ _ ?_);refine wpAny_newFunctionEnv_cells S.kind hkind λenv he s1 x=>?_;subst he;refine⟨lim.keeps x.toInCall.keep,codeAny_func ?_⟩;obtain⟨t,ht,hq⟩:=hbody A outer s H vs Q E (hr.deeper _) hsp;have I:Inv (acr CX P w K mg base N qual aB f cdv A outer s H E) [] (start N vs) H s1:=aa3 S hr.hd e0 hl r x;refine bQ (ht [] s1 (start N vs) H _ I hq) (λfl s' hs=>?_) λe s' hs=>hs;have fin:∀{σ':St} {H':Hp} {v:V} {u:Value},Inv (acr CX P w K mg base N qual aB f cdv A outer s H E) [] σ' H' s'->RelV v u->Q v H'->CE outer P w H s Q u s' :=
  λ{σ' H' v u} J rv q=>⟨v,H',J.os,J.bare,J.base,J.hok,rv,q⟩
 cases fl with
 |ret u =>
  obtain⟨v,σ',H',J,rv,q⟩:=hs;exact fin J rv q
 |next =>
  obtain⟨σ',H',J,q⟩:=hs;exact fin (v:=V.non) (u:=Value.none) J rfl q
 |brk =>
  obtain⟨_,_,_,q⟩:=hs;exact False.elim q
 |cont =>
  obtain⟨_,_,_,q⟩:=hs;exact False.elim q
section
variable{X:Cx}{x:Str}{p pos:Pos}{e:Expr}{es:List Expr}{t:TA}{id T:String}{r:List V->Hp->VK->Prop}
def tCB(r:List V->Hp->VK->Prop)(t:TA):TE:=λσ H Q=>t σ H λvs H1=>r vs H1 Q
theorem a7x(hc:CallR X (.builtin id) r)(hg:Gl X x)(hm:X.mg x=none)(hv:bootBuiltins x=some (.builtin id))(ha:PA X (e::es) t)(hn:x ≠ "__name__":=by decide)(hdb:(x == ("__debug__" : Str))=false:=by decide)
  (he:starEach (e::es) X.env=(false,eval e X.env)::starEach es X.env:=by rfl) (hpl:(backTo pos (starEach es X.env)).any (·.1)=false:=by rfl):PE X (.Call (.Name x p) (e::es) [] pos) (tCB r t):=by
 intro aA s σ H Q I h
 refine cG (a5m I hg hm hv ?_ hn hdb);exact PyProof.Rows.callWith_builtin1 (thn (ha pos aA s σ H _ I h) λus s1 ⟨vs,H1,I1,r1,q1⟩=>hc aA s1 σ H1 vs us Q I1 r1 q1) he hpl
theorem a5v(hc:CallR X (.type T) r)(hg:Gl X x)(hm:X.mg x=none)(hv:bootBuiltins x=some (.type T))(ha:PA X (e::es) t)(hn:x ≠ "__name__":=by decide)(hdb:(x == ("__debug__" : Str))=false:=by decide)
  (he:starEach (e::es) X.env=(false,eval e X.env)::starEach es X.env:=by rfl) (hpl:(backTo pos (starEach es X.env)).any (·.1)=false:=by rfl):PE X (.Call (.Name x p) (e::es) [] pos) (tCB r t):=by
 intro aA s σ H Q I h
 refine cG (a5m I hg hm hv ?_ hn hdb);exact cI (thn (ha pos aA s σ H _ I h) λus s1 ⟨vs,H1,I1,r1,q1⟩=>hc aA s1 σ H1 vs us Q I1 r1 q1) he hpl
end
end L2
namespace HT
open PyProof.Rows
section
variable{prog:Program}{w:World}{A:Around}{E:Value->Shared->Prop}{s:Shared}
theorem agz{vs ws:List Value}(ht:IsTup s.heap t vs.toArray)(hb:IsTup s.heap b ws.toArray)(hv:vs≠[])
  (h1:ws=[]->Q (.ref t) s) (h2:ws≠[]->Q (.ref s.heap.objs.size) {s with heap:=s.heap.push {cls:=.type "tuple",data:=.seq (vs++ws).toArray} })
  (hsz:vs.length+ws.length<=sizeLine):wpAny (model prog w) A (binaryOp .Add (.ref t) (.ref b)) Q E s:=by
 obtain⟨⟨cls,dd,data,sl⟩,ho,hc,n,hd⟩:=id ht;obtain⟨⟨cls2,dd2,data2,sl2⟩,ho2,hc2,n2,hd2⟩:=id hb;simp only at hc hd hc2 hd2;subst hc hd hc2 hd2;have e:vs.toArray++ws.toArray=(vs++ws).toArray:=by simp
 by_cases hw:ws=[]
 ·exact concat_meets ⟨_,ho,rfl⟩ ⟨_,ho2,rfl⟩ eF seq_tuple_add PySem.F.slot_tuple_add eC (eB _ _)
   (tuple_addW1 t b vs.toArray ws.toArray n n2 dd dd2 sl sl2 (by simpa using hv) (by simp[hw])) ⟨ho,ho2,h1 hw⟩
 ·refine concat_meets ⟨_,ho,rfl⟩ ⟨_,ho2,rfl⟩ eF seq_tuple_add PySem.F.slot_tuple_add eC (eB _ _)
   (tuple_addW2 t b vs.toArray ws.toArray n n2 dd dd2 sl sl2 (by simpa using hv) (by simpa using hw) (by rw[ag,ag];exact hsz)) ⟨ho,ho2,?_⟩
  rw[e];exact h2 hw
def sIx(n d:Nat):Option Int->Nat
 |none=>d
 |some v=>if v<0 then (v+(n:Int)).toNat else min v.toNat n
theorem a7y(n d:Nat):sIx n d none=d:=rfl
theorem a4g(n d k:Nat):sIx n d (some (k:Int))=min k n:=by
 show(if (k:Int)<0 then ((k:Int)+(n:Int)).toNat else min (k:Int).toNat n)=min k n
 rw[aY (by omega),dv]
theorem aa4(n d:Nat)(hd:d<=n)(o:Option Int):sIx n d o<=n:=by
 cases o with
 |none=>exact hd
 |some v =>
  show(if v<0 then (v+(n:Int)).toNat else min v.toNat n)<=n
  by_cases hv:v<0
  ·rw[aJ hv];omega
  ·rw[aY hv];exact Nat.min_le_right _ _
theorem aa5(v:Int)(n d:Nat):(if v<0 then max (v+(n:Int)) 0 else min v (n:Int))=((sIx n d (some v):Nat):Int):=by
 show(if v<0 then max (v+(n:Int)) 0 else min v (n:Int))=(((if v<0 then (v+(n:Int)).toNat else min v.toNat n):Nat):Int)
 by_cases hv:v<0
 ·simp only[aJ hv];omega
 ·simp only[aY hv];omega
theorem a91(lo hi:Option Int)(n:Nat):Builtin.Slice.sliceAdjust lo hi 1 (n:Int)=(((sIx n 0 lo:Nat):Int),((sIx n n hi:Nat):Int)):=by
 have h1:¬ ((1:Int)<0):=by omega
 unfold Builtin.Slice.sliceAdjust;simp only[h1,dZ];refine Prod.ext ?_ ?_
 ·cases lo with
  |none=>rfl
  |some v=>exact aa5 v n 0
 ·cases hi with
  |none=>rfl
  |some v=>exact aa5 v n n
theorem a92(i j:Nat):Builtin.Slice.slicePlaces (i:Int) (j:Int) 1=j-i:=by
 unfold Builtin.Slice.slicePlaces;have h1:(1:Int) > 0:=by omega
 simp only[h1,dA,Int.ediv_one]
 split<;>omega
theorem a3o(p:IsPart v o)(h:Q o s):wpAny (model prog w) A (Builtin.Slice.slicePartIndex v) Q E s:=by
 cases p with
 |none=>exact slicePart_none h
 |int i t=>exact slicePart_int h
theorem xn{sl:Addr}{vl vu:Value}{lo hi:Option Int}{n:Nat}{Q:Int×Int×Nat->Shared->Prop}(hs:s.heap.IsSliceOf sl vl vu .none)(pl:IsPart vl lo)(pu:IsPart vu hi)
  (h:Q (((sIx n 0 lo:Nat):Int),1,sIx n n hi-sIx n 0 lo) s):wpAny (model prog w) A (Builtin.Slice.sliceApplied (.ref sl) (pure (n:Int))) Q E s:=by
 obtain⟨os,hos,hcs,hds⟩:=id hs;unfold Builtin.Slice.sliceApplied Builtin.Slice.sliceFields;refine a8 (a8 (cb hos hds (x:=vl) rfl (a8 (cb hos hds (x:=vu) rfl (a8 (cb hos hds (x:=.none) rfl (aE ?_)))))));refine a8 (slicePart_none ?_);show wpAny _ _ (if ((1:Int) == 0)=true then _ else _) _ _ s
 rw[aY (by decide)]
 refine a8 (a3o pl (a8 (a3o pu (a8 (aE ?_)))));show wpAny _ _ (match Builtin.Slice.sliceAdjust lo hi 1 (n:Int) with|(lo,hi)=>pure (lo,(1:Int),Builtin.Slice.slicePlaces lo hi 1)) _ _ s
 rw[a91 lo hi n];show wpAny _ _ (pure (((sIx n 0 lo:Nat):Int),(1:Int),Builtin.Slice.slicePlaces ((sIx n 0 lo:Nat):Int) ((sIx n n hi:Nat):Int) 1)) _ _ s;rw[a92];exact aE h
theorem ade(xs:Array Value)(i k:Nat):((List.range k).filterMap λ(m:Nat)=>xs[((i:Int)+(m:Int)*1).toNat]?).toArray=((xs.toList.drop i).take k).toArray:=by
 have e:(λ(m:Nat)=>xs[((i:Int)+(m:Int)*1).toNat]?)=λm=>xs[i+m]?:=by
  funext m
  have:((i:Int)+(m:Int)*1).toNat=i+m:=by omega
  rw[this]
 rw[e];have:=pick_run xs i k;rw[List.filterMap_map]at this;have e2:((λx=>xs[x]?) ∘ λx=>i+x)=λm=>xs[i+m]?:=rfl;rw[e2]at this;rw[this]
theorem a0r{t sl:Addr}{aC:Array Value}{vl vu:Value}{lo hi:Option Int}{Q:Value->Shared->Prop}(ht:IsTup s.heap t aC)(hs:s.heap.IsSliceOf sl vl vu .none)(pl:IsPart vl lo)(pu:IsPart vu hi)
  (hw:¬ (sIx aC.size 0 lo=0/\sIx aC.size aC.size hi=aC.size))
  (h:Q (.ref s.heap.objs.size) {s with heap:=s.heap.push {cls:=.type "tuple",data:=.seq ((aC.toList.drop (sIx aC.size 0 lo)).take (sIx aC.size aC.size hi-sIx aC.size 0 lo)).toArray} })
  (hsz:aC.size<=sizeLine):wpAny (model prog w) A (getItem (.ref t) (.ref sl)) Q E s:=by
 have htake:sizeOk (.seq ((aC.toList.drop (sIx aC.size 0 lo)).take (sIx aC.size aC.size hi-sIx aC.size 0 lo)).toArray):=by
  show((aC.toList.drop (sIx aC.size 0 lo)).take (sIx aC.size aC.size hi-sIx aC.size 0 lo)).toArray.size<=sizeLine;rw[ag,bE,bF,dO];omega
 have hj:sIx aC.size aC.size hi<=aC.size:=aa4 _ _ (ai _) hi;obtain⟨os,hos,hcs,hds⟩:=id hs;have hTs:s.TypeIs (.ref sl) "slice":=⟨os,hos,hcs⟩;unfold getItem
 try with_reducible refine cQ ?_
 first|refine a8 (aE ?_)|skip
 refine a8 (wpAny_sequenceKey ht.typeIs (by decide) ?_)
 refine a8 (bH (name:=Str.ofString "__getitem__") ht.typeIs ba
  (cE ba ht.typeIs entry_tuple_getitem ?_ (args_tuple_getitem _ _)))
 show wpAny _ _ (Builtin.Tuple.tupleItemsOf (.ref t)>>=_) _ _ s;refine a8 (tupleItemsOf_ ht ?_);refine a8 (wpAny_typeOf hTs ?_);rw[aJ (by decide)]
 refine a8 (xn hs pl pu ?_);have hno:¬ ((((sIx aC.size 0 lo:Nat):Int) == 0 && (1:Int) == 1 && (sIx aC.size aC.size hi-sIx aC.size 0 lo) == aC.size)=true):=by
  intro q
  rw[bI,bI]at q;have q1:((sIx aC.size 0 lo:Nat):Int)=0:=eq_of_beq q.1.1;have q2:sIx aC.size aC.size hi-sIx aC.size 0 lo=aC.size:=eq_of_beq q.2;exact hw ⟨by omega,by omega⟩
 show wpAny _ _ (if (((sIx aC.size 0 lo:Nat):Int) == 0 && (1:Int) == 1 && (sIx aC.size aC.size hi-sIx aC.size 0 lo) == aC.size)=true then _ else _) _ _ s
 rw[aY hno,ade]
 first
  |exact a8 (m:=Builtin.Tuple.tupleExact _) (bS (aE ⟨_,rfl,aE h⟩) htake)
  |exact a8 (m:=Builtin.Tuple.tupleExact _) (bS (a8 (aE (aE ⟨_,rfl,aE h⟩))) htake)
  |exact a8 (a8 (m:=Builtin.Tuple.tupleExact _) (bS (aE (aE ⟨_,rfl,aE h⟩)) htake))
  |exact a8 (a8 (m:=Builtin.Tuple.tupleExact _) (bS (aE ⟨_,rfl,aE h⟩) htake))
end
end HT
namespace L2
open PyProof.Rows
abbrev TO:=St->Hp->(Option Int->Hp->Prop)->Prop
def PO(X:Cx)(e:Option Expr)(t:TO):Prop :=
 ∀(aA:List (Addr×Obj)) (s:Shared) (σ:St) (H:Hp) (Q:Option Int->Hp->Prop),Inv X aA σ H s->t σ H Q->
  wpAny (model X.prog X.w) X.A (evalPart e X.env) (λu s'=>∃o H',Inv X aA σ H' s'/\IsPart u o/\Q o H') X.xe s
def ah0:TO:=λ_ H Q=>Q none H
def aop(t:TE):TO:=λσ H Q=>t σ H λx H1=>∃i,x=.int i/\Q (some i) H1
section
variable{X:Cx}{e:Expr}{te:TE}{lo hi:Option Expr}{tl th:TO}{pos p2:Pos}
theorem ah1:PO X none ah0:=by
 intro aA s σ H Q I h
 rw[evalPart_none];exact aE ⟨none,H,I,.none,h⟩
theorem ah2(h:PE X e te):PO X (some e) (aop te):=by
 intro aA s σ H Q I hw
 rw[evalPart_some];refine thn (h aA s σ H _ I hw) ?_
 rintro u s1 ⟨x,H1,I1,r1,q1⟩
 obtain⟨i,rfl,q⟩:=q1;obtain⟨t,rfl⟩:=r1;exact⟨some i,H1,I1,.int i t,q⟩
def SlR(X:Cx)(r:V->Option Int->Option Int->Hp->VK->Prop):Prop :=
 ∀(aA:List (Addr×Obj)) (s:Shared) (σ:St) (H:Hp) (x:V) (v vl vu:Value) (lo hi:Option Int) (sl:Addr) (Q:VK),Inv X aA σ H s->RelV x v->s.heap.IsSliceOf sl vl vu .none->IsPart vl lo->IsPart vu hi->r x lo hi H Q->
  ∃T id,typeLookup (.type T) "__getitem__" = pure (some (.builtin id))/\s.TypeIs v T/\wpAny (model X.prog X.w) X.A (getItem v (.ref sl)) (EP X aA σ Q) X.xe s
theorem SlR.or(h:SlR X r)(h':SlR X r'):SlR X (λx lo hi H Q=>r x lo hi H Q\/r' x lo hi H Q):=by
 intro aA s σ H x v vl vu lo hi sl Q I rx hs pl pu q
 rcases q with q|q
 ·exact h aA s σ H x v vl vu lo hi sl Q I rx hs pl pu q
 ·exact h' aA s σ H x v vl vu lo hi sl Q I rx hs pl pu q
def tSl(r:V->Option Int->Option Int->Hp->VK->Prop)(te:TE)(tl th:TO):TE:=λσ H Q=>te σ H λx H1=>tl σ H1 λl H2=>th σ H2 λu H3=>r x l u H3 Q
theorem adf(hr:SlR X r)(he:PE X e te)(hl:PO X lo tl)(hu:PO X hi th):PE X (.Subscript e (.Slice lo hi none p2) pos) (tSl r te tl th):=by
 intro aA s σ H Q I h
 refine Subscript_ (thn (he aA s σ H _ I h) λv s1 ⟨x,H1,I1,r1,q1⟩=>?_);refine wpAny_Slice (thn (hl aA s1 σ H1 _ I1 q1) λvl s2 ⟨l,H2,I2,pl,q2⟩=>thn (hu aA s2 σ H2 _ I2 q2) λvu s3 ⟨u,H3,I3,pu,q3⟩=>?_);rw[evalPart_none];refine aE ?_;have I4:Inv X aA σ H3 {s3 with heap:=s3.heap.push {cls:=.type "slice",data:=.fields #[vl,vu,.none]} }:=I3.kept (t':=s3.toks) λb ob q=>a6 _ q
 obtain⟨T,id,hT,ht,hg⟩:=hr aA {s3 with heap:=s3.heap.push {cls:=.type "slice",data:=.fields #[vl,vu,.none]} } σ H3 x v vl vu l u s3.heap.objs.size Q I4 r1 (Heap.IsSliceOf.new ..) pl pu q3
 show wpAny (model X.prog X.w) X.A (subscriptTail e (.Slice lo hi none p2) v (.ref s3.heap.objs.size)) (EP X aA σ Q) X.xe {s3 with heap:=s3.heap.push {cls:=.type "slice",data:=.fields #[vl,vu,.none]} }
 exact tail_any (ops:=[.ref s3.heap.objs.size,v]) ht hT hg (by with_unfolding_all rfl)
def af0(xs:List V)(lo hi:Option Int):List V:=(xs.drop (HT.sIx xs.length 0 lo)).take (HT.sIx xs.length xs.length hi-HT.sIx xs.length 0 lo)
theorem a2b(xs:List V)(lo hi:Option Int):(af0 xs lo hi).length<=xs.length:=by
 unfold af0;rw[bE,bF];omega
def aoq(K:Fg):V->Option Int->Option Int->Hp->VK->Prop:=λx lo hi H Q=>∃a xs,x=.ref a/\SqT K H a xs /\
 ¬ (HT.sIx xs.length 0 lo=0/\HT.sIx xs.length xs.length hi=xs.length)/\∀p,H p=none->Q (.ref p) (upd H p (.tup (af0 xs lo hi)))
theorem ak6:SlR X (aoq X.K):=by
 intro aA s σ H x v vl vu lo hi sl Q I rx hs pl pu h
 obtain⟨a,xs,rfl,hx,hw,q⟩:=h;cases rx
 obtain⟨its,r,ht,hz⟩:=I.tuple hx;have aH:its.toArray.size=xs.length:=by rw[ag];exact r.length.symm
 refine⟨"tuple",_,ba.lookup,ht.typeIs,?_⟩;refine HT.a0r ht hs pl pu (by rw[aH];exact hw) ?_ (by rw[aH];exact hz)
 rw[aH];refine⟨.ref s.heap.objs.size,_,I.laid (t':=s.toks) (o:=.tup (af0 xs lo hi)) (λb ob q=>a6 _ q) (ai _) ?_,rfl,q _ (I.hok.fresh (ai _))⟩;exact⟨bX (a2b xs lo hi) hz,_,(r.drop (HT.sIx xs.length 0 lo)).take (HT.sIx xs.length xs.length hi-HT.sIx xs.length 0 lo),TupD.new _ _⟩
def ak7(K:Fg):R2:=λx y H Q=>∃a b xs ys,x=.ref a/\y=.ref b/\SqT K H a xs/\SqT K H b ys/\xs≠[]/\xs.length+ys.length<=sizeLine /\
 (ys=[]->Q (.ref a) H)/\(ys≠[]->∀p,H p=none->Q (.ref p) (upd H p (.tup (xs++ys))))
theorem Vals.nil_iff(r:Vals xs us):us=[]↔xs=[]:=by
 cases r with
 |nil=>simp
 |cons _ _=>simp
theorem ah3:OpR X (binaryOp .Add) (ak7 X.K):=by
 intro aA s σ H x y v u Q I rx ry h
 obtain⟨a,b,xs,ys,rfl,rfl,ha,hb,hx,hz,q1,q2⟩:=h;cases rx
 cases ry
 obtain⟨its,r1,p1,_⟩:=I.tuple ha;obtain⟨its2,r2,p2,_⟩:=I.tuple hb;refine HT.agz p1 p2 (λz=>hx (r1.nil_iff.mp z)) (λz=>⟨.ref a,H,I,rfl,q1 (r2.nil_iff.mp z)⟩) (λz=>?_) (by rw[<-r1.length,<-r2.length];exact hz)
 refine⟨.ref s.heap.objs.size,_,I.laid (t':=s.toks) (o:=.tup (xs++ys)) (λb ob q=>a6 _ q) (ai _) ?_,rfl,q2 (λw=>z (r2.nil_iff.mpr w)) _ (I.hok.fresh (ai _))⟩;exact⟨by rw[a9];exact hz,_,r1.append r2,TupD.new _ _⟩
end
def ixN(n:Nat)(i:Int):Option Nat:=if 0<=i then (if i<n then some i.toNat else none) else if -(n:Int)<=i then some (i+n).toNat else none
def atI{α:Type}(xs:List α)(i:Int):Option α:=(ixN xs.length i).bind λj=>xs[j]?
theorem aa6(h:ixN n i=some j):seqIndex? i n=some j/\j<n /\ -(n:Int)<=i/\i<n:=by
 unfold ixN at h
 by_cases h0:0<=i
 ·rw[aJ h0]at h
  by_cases h1:i<n
  ·rw[aJ h1]at h;have e:i.toNat=j:=b6 h;exact⟨by rw[eT h0 h1,e],by omega,by omega,h1⟩
  ·rw[aY h1]at h;cases h
 ·rw[aY h0]at h
  by_cases h1 : -(n:Int)<=i
  ·rw[aJ h1]at h;have e:(i+n).toNat=j:=b6 h;exact⟨by rw[eL (by omega) h1,e],by omega,h1,by omega⟩
  ·rw[aY h1]at h;cases h
theorem a4h{α:Type}{xs:List α}{i:Int}{v:α}(h:atI xs i=some v):∃j,seqIndex? i xs.length=some j/\xs[j]? = some v/\j<xs.length /\ -(xs.length:Int)<=i/\i<xs.length:=by
 unfold atI at h
 cases e:ixN xs.length i with
 |none=>rw[e]at h;cases h
 |some j =>
  rw[e]at h;obtain⟨h1,h2,h3,h4⟩:=aa6 e;exact⟨j,h1,h,h2,h3,h4⟩
theorem qy{α:Type}{xs:List α}{j:Nat}{v:α}(h:xs[j]? = some v):atI xs (j:Int)=some v:=by
 have hj:j<xs.length:=(a7.mp h).1;have e:ixN xs.length (j:Int)=some j:=by
  unfold ixN;rw[aJ (by omega),aJ (by omega)];simp
 unfold atI;rw[e];exact h
def a4i(b:Expr):Prop:=∀o i,subscripted b false o i=operate [o,i] (getItem o i)
def IxR(X:Cx)(r:R2):Prop :=
 ∀(value slice:Expr) (aA:List (Addr×Obj)) (s:Shared) (σ:St) (H:Hp) (x y:V) (v u:Value) (Q:VK),Inv X aA σ H s->RelV x v->RelV y u->r x y H Q->
  subscripted slice false v u=operate [v,u] (getItem v u)->wpAny (model X.prog X.w) X.A (subscriptTail value slice v u) (EP X aA σ Q) X.xe s
def MtR(X:Cx)(id:String)(r:V->List V->Hp->VK->Prop):Prop :=
 ∀(aA:List (Addr×Obj)) (s:Shared) (σ:St) (H:Hp) (x:V) (xs:List V) (v:Value) (us:List Value) (Q:VK),Inv X aA σ H s->RelV x v->Vals xs us->r x xs H Q->
  wpAny (model X.prog X.w) X.A (call (.builtin id) (v::us)) (EP X aA σ Q) X.xe s
section
variable{X:Cx}{a b:Expr}{ta tb:TE}{pos:Pos}
theorem IxR.or(h:IxR X r)(h':IxR X r'):IxR X (λx y H Q=>r x y H Q\/r' x y H Q):=by
 intro value slice aA s σ H x y v u Q I rx ry q hs
 rcases q with q|q
 ·exact h value slice aA s σ H x y v u Q I rx ry q hs
 ·exact h' value slice aA s σ H x y v u Q I rx ry q hs
theorem aor(hr:IxR X r)(ha:PE X a ta)(hb:PE X b tb)(hs:a4i b):PE X (.Subscript a b pos) (tOp r ta tb):=by
 intro aA s σ H Q I h
 exact Subscript_ (aoj ha hb I h λv u s2 x y H2 I2 rx ry q=>hr a b aA s2 σ H2 x y v u Q I2 rx ry q (hs _ _))
def anr(K:Fg):R2:=λx y H Q=>∃p xs i v,x=.ref p/\y=.int i/\SqL K H p xs/\atI xs i=some v/\Q v H
def aq6(K:Fg):R2:=λx y H Q=>∃p xs i v,x=.ref p/\y=.int i/\SqT K H p xs/\atI xs i=some v/\Q v H
def aq7:R2:=λx y H Q=>∃z i c,x=.str z/\y=.int i/\z.length<=sizeLine/\atI z.cps.toList i=some c/\Q (.str ⟨#[c]⟩) H
theorem ah4:IxR X (anr X.K):=by
 intro value slice aA s σ H x y v u Q I rx ry h hs
 obtain⟨p,xs,i,z,rfl,rfl,hq,he,q⟩:=h;cases rx
 obtain⟨t,rfl⟩:=ry;obtain⟨its,r,pl,hz⟩:=I.list hq;obtain⟨j,h1,h2,h3,h4,h5⟩:=a4h he;obtain⟨w,ew,rw'⟩:=r.get h2;have hl:=r.length;have hn:=a1e;have fin:EP X aA σ Q w s:=⟨z,H,I,rw',q⟩
 by_cases h0:0<=i
 ·have hj:i.toNat=j:=by
   rw[eT h0 h5]at h1;exact b6 h1
  exact item_listR pl.isList h0 (by omega) (by rw[hj];simpa using ew) fin hs
 ·have hj:(i+(its.toArray.size:Int)).toNat=j:=by
   rw[eL (by omega) h4]at h1
   rw[ag,<-hl];exact b6 h1
  exact subscriptTail_builtinR (x:=w) pl.isList.typeIs slot_list_getitem.lookup
   (wpAny_getItem_list_neg (Q:=λr s'=>r=w/\EP X aA σ Q r s') pl.isList (by omega) (by rw[ag]<;>omega) (by omega) (by rw[hj];simpa using ew) ⟨rfl,fin⟩) hs
theorem a5w:IxR X (aq6 X.K):=by
 intro value slice aA s σ H x y v u Q I rx ry h hs
 obtain⟨p,xs,i,z,rfl,rfl,hq,he,q⟩:=h;cases rx
 obtain⟨t,rfl⟩:=ry;obtain⟨its,r,pl,hz⟩:=I.tuple hq;obtain⟨j,h1,h2,h3,h4,h5⟩:=a4h he;obtain⟨w,ew,rw'⟩:=r.get h2;have hl:=r.length;have hn:=a1e;have fin:EP X aA σ Q w s:=⟨z,H,I,rw',q⟩;exact subscriptTail_builtinR (x:=w) pl.typeIs slot_tuple_getitem.lookup
  (getItem_tuple (j:=j) (Q:=λr s'=>r=w/\EP X aA σ Q r s') pl (by omega) (by omega) (by rw[ag,<-hl];exact h1) (by simpa using ew) ⟨rfl,fin⟩) hs
theorem ak8:IxR X aq7:=by
 intro value slice aA s σ H x y v u Q I rx ry h hs
 obtain⟨z,i,c,rfl,rfl,hz,he,q⟩:=h;obtain⟨t,rfl⟩:=rx;obtain⟨t',rfl⟩:=ry;obtain⟨j,h1,h2,h3,h4,h5⟩:=a4h he;have hl:z.cps.toList.length=z.length:=by simp[Str.length]
 rw[hl]at h1 h4 h5;have hn:=a1e;exact tail_any (typeIs_str s z t) slot_str_getitem.lookup (getItem_str (c:=c) (by
  have e1:decide (i < -(2^63:Int))=false:=aP (by omega)
  have e2:decide (i≥2^63)=false:=aP (by omega)
  rw[e1,e2,Bool.or_false]) (by rw[h1];simpa using h2) ⟨.str ⟨#[c]⟩,H,I.tok _,⟨_,rfl⟩,q⟩) hs
def rIx(K:Fg):R2:=λx y H Q=>anr K x y H Q\/aq6 K x y H Q\/aq7 x y H Q
theorem ak9:IxR X (rIx X.K):=ah4.or (a5w.or ak8)
theorem a93(its:List Value)(n j:Nat)(u:Value):Obj.mapSeq (·.setIfInBounds j u) {cls:=.type "list",data:=.seq its.toArray n}={cls:=.type "list",data:=.seq (its.set j u).toArray n}:=by
 simp[Obj.mapSeq]
theorem Inv.lst{aA:List (Addr×Obj)}{σ:St}{H:Hp}{s:Shared}{p:Addr}{xs:List V}(I:Inv X aA σ H s)(h:H p=some (.lst xs)) :
  ∃(its:List Value) (n:Nat),Vals xs its/\s.heap.get? p=some {cls:=.type "list",data:=.seq its.toArray n}/\xs.length<=sizeLine:=by
 obtain⟨z,its,n,r,e⟩:=I.hok p _ h;exact⟨its,n,r,e,z⟩
theorem Inv.lstUpd{its its':List Value}(I:Inv X aA σ H s)(h:H p=some (.lst xs))
  (ho:s.heap.get? p=some {cls:=.type "list",data:=.seq its.toArray n}) (hf:f {cls:=.type "list",data:=.seq its.toArray n}={cls:=.type "list",data:=.seq its'.toArray n' }) (r:Vals ys its') (hz:ys.length<=sizeLine) (t:Nat) :
  Inv X aA σ (upd H p (.lst ys)) {s with heap:=s.heap.update p f,toks:=t}:=by
 have e:(s.heap.update p f).get? p=some {cls:=.type "list",data:=.seq its'.toArray n' }:=by
  rw[Heap.get?_update_self f ho (by rw[hf]<;>rfl),hf]
 refine I.write (x:=p) (e:=p) (by rw[h];trivial) (.inl rfl) (λb u hb q=>(dn _ _ (eJ hb)).trans q) ⟨_,e⟩ ?_
 exact⟨hz,its',n',r,e⟩
def aka:V->V->V->Hp->(Hp->Prop)->Prop:=λo i v H Q=>∃p xs k j,o=.ref p/\i=.int k/\H p=some (.lst xs)/\ixN xs.length k=some j/\Q (upd H p (.lst (xs.set j v)))
theorem set_list:aod X aka:=by
 intro aA s σ H o i v ov iv u Q I ro ri rv h
 obtain⟨p,xs,k,j,rfl,rfl,hp,hj,q⟩:=h;cases ro
 obtain⟨t,rfl⟩:=ri;obtain⟨its,n,r,ho,hz⟩:=I.lst hp;obtain⟨h1,h2,h3,h4⟩:=aa6 hj;have hl:=r.length;have hn:=a1e;have I':Inv X aA σ (upd H p (.lst (xs.set j v))) {s with heap:=s.heap.update p (Obj.mapSeq (·.setIfInBounds j u))} :=
  I.lstUpd hp ho (a93 its n j u) (r.set rv j) (by rw[eM];exact hz) s.toks
 by_cases h0:0<=k
 ·have hk:k.toNat=j:=by
   rw[eT h0 h4]at h1;exact b6 h1
  exact PySem.W.ki_setAt ho h0 (by omega) (by rw[ag,<-hl];exact h4) (by rw[hk];exact⟨_,I',q⟩)
 ·have hk:(k+(its.toArray.size:Int)).toNat=j:=by
   rw[eL (by omega) h3]at h1
   rw[ag,<-hl];exact b6 h1
  exact PySem.W.ki_setBack ho (by omega) (by rw[ag,<-hl];exact h3) (by omega) (by rw[hk];exact⟨_,I',q⟩)
theorem a5x(lo hi:Option Int)(n:Nat):(sliceBounds lo hi none n).1=((HT.sIx n 0 lo:Nat):Int)/\(sliceBounds lo hi none n).2.1=((HT.sIx n n hi:Nat):Int)/\(sliceBounds lo hi none n).2.2=1:=by
 refine⟨?_,?_,rfl⟩
 ·cases lo with
  |none=>simp[sliceBounds,HT.sIx]
  |some i =>
   simp only[sliceBounds,HT.sIx,Option.getD_none,show(1:Int) > 0 by decide,dA]
   by_cases h:i<0
   ·simp only[h,dA]<;>omega
   ·simp only[h,dZ]<;>omega
 ·cases hi with
  |none=>simp[sliceBounds,HT.sIx]
  |some i =>
   simp only[sliceBounds,HT.sIx,Option.getD_none,show(1:Int) > 0 by decide,dA]
   by_cases h:i<0
   ·simp only[h,dA]<;>omega
   ·simp only[h,dZ]<;>omega
theorem a4j(its:List Value)(lo hi:Option Int):slicePick its.toArray lo hi none=((its.drop (HT.sIx its.length 0 lo)).take (HT.sIx its.length its.length hi-HT.sIx its.length 0 lo)).toArray:=by
 obtain⟨h1,h2,h3⟩:=a5x lo hi its.toArray.size;unfold slicePick;rw[h1,h2,h3];simp only[sliceRange_one,pick_run,ag]<;>rfl
def aos(K:Fg):V->Option Int->Option Int->Hp->VK->Prop:=λx lo hi H Q=>∃a xs,x=.ref a/\SqL K H a xs/\∀p,H p=none->Q (.ref p) (upd H p (.lst (af0 xs lo hi)))
theorem ah5:SlR X (aos X.K):=by
 intro aA s σ H x v vl vu lo hi sl Q I rx hs pl pu h
 obtain⟨a,xs,rfl,hx,q⟩:=h;cases rx
 obtain⟨its,r,ht,hz⟩:=I.list hx;have aH:=r.length;refine⟨"list",_,slot_list_getitem.lookup,ht.isList.typeIs,?_⟩;refine wpAny_getItem_list_slice ht.isList hs pl pu .none (by simp) ?_ (by rw[ag]<;>omega)
 rw[a4j,<-aH];refine⟨.ref s.heap.objs.size,_,I.laid (t':=s.toks) (o:=.lst (af0 xs lo hi)) (λb ob q=>a6 _ q) (ai _) ?_,rfl,q _ (I.hok.fresh (ai _))⟩;exact⟨bX (a2b xs lo hi) hz,_,0,(r.drop (HT.sIx xs.length 0 lo)).take (HT.sIx xs.length xs.length hi-HT.sIx xs.length 0 lo),ay _ rfl⟩
def zy:V->Bool
 |.non=>true
 |.bl _=>true
 |.int _=>true
 |.str _=>true
 |_=>false
def eqV:V->V->Bool
 |.non,.non=>true
 |.bl a,.bl b=>a == b
 |.bl a,.int b=>(if a then 1 else 0) == b
 |.int a,.bl b=>a == (if b then 1 else 0)
 |.int a,.int b=>a == b
 |.str a,.str b=>a == b
 |_,_=>false
theorem aa7(ry:RelV y u)(rx:RelV x v)(fy:zy y=true)(fx:zy x=true):SeqAt.EqAt A s u v (eqV y x):=by
 cases y with
 |non =>
  cases ry
  cases x with
  |non=>cases rx;exact SeqAt.EqAt.same _
  |bl b=>cases rx;exact SeqAt.EqAt.none_bool b
  |int b=>obtain⟨t,rfl⟩:=rx;exact SeqAt.EqAt.none_int b t
  |str b=>obtain⟨t,rfl⟩:=rx;exact SeqAt.EqAt.none_str b t
  |_=>exact absurd (show false=true from fx) aW
 |bl a =>
  cases ry
  cases x with
  |non=>cases rx;exact SeqAt.EqAt.bool_none a
  |bl b=>cases rx;exact SeqAt.EqAt.bool_bool a b
  |int b=>obtain⟨t,rfl⟩:=rx;exact SeqAt.EqAt.bool_int a b t
  |str b=>obtain⟨t,rfl⟩:=rx;exact SeqAt.EqAt.bool_str a b t
  |_=>exact absurd (show false=true from fx) aW
 |int a =>
  obtain⟨t',rfl⟩:=ry
  cases x with
  |non=>cases rx;exact SeqAt.EqAt.int_none a t'
  |bl b=>cases rx;exact SeqAt.EqAt.int_bool a t' b
  |int b=>obtain⟨t,rfl⟩:=rx;exact SeqAt.EqAt.int_int a t' b t
  |str b=>obtain⟨t,rfl⟩:=rx;exact SeqAt.EqAt.int_str a t' b t
  |_=>exact absurd (show false=true from fx) aW
 |str a =>
  obtain⟨t',rfl⟩:=ry
  cases x with
  |non=>cases rx;exact SeqAt.EqAt.str_none a t'
  |bl b=>cases rx;exact SeqAt.EqAt.str_bool a t' b
  |int b=>obtain⟨t,rfl⟩:=rx;exact SeqAt.EqAt.str_int a t' b t
  |str b=>obtain⟨t,rfl⟩:=rx;exact SeqAt.EqAt.str_str a t' b t
  |_=>exact absurd (show false=true from fx) aW
 |_=>exact absurd (show false=true from fy) aW
def eqU(x:V)(u:Value):Bool:=match u with
 |.none=>eqV .non x
 |.bool b=>eqV (.bl b) x
 |.int i _=>eqV (.int i) x
 |.str z _=>eqV (.str z) x
 |_=>false
theorem af1(r:RelV y u)(f:zy y=true):eqU x u=eqV y x:=by
 cases y with
 |non=>cases r;rfl
 |bl b=>cases r;rfl
 |int i=>obtain⟨t,rfl⟩:=r;rfl
 |str z=>obtain⟨t,rfl⟩:=r;rfl
 |_=>exact absurd (show false=true from f) aW
theorem a2c:∀{xs:List V} {us:List Value},Vals xs us->xs.all zy=true->us.any (eqU x)=xs.any λy=>eqV y x
 |_,_,.nil,_=>rfl
 |y::xs,u::us,.cons r t,f=>by
  rw[cR,bI]at f;rw[dI,dI,af1 r f.1,a2c t f.2]
theorem a08(rx:RelV x v)(fx:zy x=true):∀{xs:List V} {us:List Value},Vals xs us->xs.all zy=true->∀u∈us,SeqAt.EqAt A s u v (eqU x u)
 |_,_,.nil,_=>λu hu=>by cases hu
 |y::xs,u::us,.cons r t,f=>λu' hu=>by
  rw[cR,bI]at f
  rcases aO.mp hu with rfl|hu
  ·rw[af1 r f.1];exact aa7 r rx f.1 fx
  ·exact a08 rx fx t f.2 u' hu
def inV(x:V)(xs:List V):Bool:=xs.any λy=>eqV y x
def rIn(K:Fg)(neg:Bool):R2:=λx y H Q=>∃p xs,y=.ref p/\(SqL K H p xs\/SqT K H p xs)/\zy x=true/\xs.all zy=true/\Q (.bl (if neg then !inV x xs else inV x xs)) H
theorem aa8:OpR X (compareOp .In) (rIn X.K false):=by
 intro aA s σ H x y v u Q I rx ry h
 obtain⟨p,xs,rfl,hq,fx,fs,q⟩:=h;cases ry
 rcases hq with hq|hq
 ·obtain⟨its,r,pl,hz⟩:=I.list hq;refine SeqAt.in_listAt (eqU x) pl.isList (λw hw=>a08 rx fx r fs w (by simpa using hw)) ⟨.bl _,H,I,rfl,?_⟩
  rw[show its.toArray.any (eqU x)=its.any (eqU x) by simp,a2c r fs]
  exact q
 ·obtain⟨its,r,pl,hz⟩:=I.tuple hq;refine SeqAt.in_tupleAt (eqU x) pl (λw hw=>a08 rx fx r fs w (by simpa using hw)) ⟨.bl _,H,I,rfl,?_⟩
  rw[show its.toArray.any (eqU x)=its.any (eqU x) by simp,a2c r fs]
  exact q
theorem yf:OpR X (compareOp .NotIn) (rIn X.K true):=by
 intro aA s σ H x y v u Q I rx ry h
 obtain⟨p,xs,rfl,hq,fx,fs,q⟩:=h;cases ry
 rcases hq with hq|hq
 ·obtain⟨its,r,pl,hz⟩:=I.list hq;refine SeqAt.notIn_listAt (eqU x) pl.isList (λw hw=>a08 rx fx r fs w (by simpa using hw)) ⟨.bl _,H,I,rfl,?_⟩
  rw[show its.toArray.any (eqU x)=its.any (eqU x) by simp,a2c r fs]
  exact q
 ·obtain⟨its,r,pl,hz⟩:=I.tuple hq;refine SeqAt.notIn_tupleAt (eqU x) pl (λw hw=>a08 rx fx r fs w (by simpa using hw)) ⟨.bl _,H,I,rfl,?_⟩
  rw[show its.toArray.any (eqU x)=its.any (eqU x) by simp,a2c r fs]
  exact q
theorem a5y:CallR X (.builtin "len") (λxs H Q=>∃p ys,xs=[.ref p]/\(SqL X.K H p ys\/SqT X.K H p ys)/\Q (.int ys.length) H):=by
 intro aA s σ H xs us Q I r h
 obtain⟨p,ys,rfl,hq,q⟩:=h;obtain⟨u,rfl,rx⟩:=vals1 r;cases rx
 have hn:=a1e
 rcases hq with hq|hq
 ·obtain⟨its,r',pl,hz⟩:=I.list hq;have aH:=r'.length;exact Calls.call_len_list pl.isList (by simp only[ag]<;>omega) ⟨.int ys.length,H,I.tok _,⟨s.toks+1,by rw[ag,aH]⟩,q⟩
 ·obtain⟨its,r',pl,hz⟩:=I.tuple hq;have aH:=r'.length;exact len_tuple pl (by simp only[ag]<;>omega) ⟨.int ys.length,H,I.tok _,⟨s.toks+1,by rw[ag,aH]⟩,q⟩
theorem a5z:CallR X (.builtin "len") (λxs H Q=>∃z,xs=[.str z]/\z.length<=sizeLine/\Q (.int z.length) H):=by
 intro aA s σ H xs us Q I r h
 obtain⟨z,rfl,hz,q⟩:=h;obtain⟨u,rfl,t,rfl⟩:=vals1 r;have hn:=a1e;exact len_str (by omega) ⟨.int z.length,H,I.tok _,⟨_,rfl⟩,q⟩
theorem CallR.or(h:CallR X f r)(h':CallR X f r'):CallR X f (λxs H Q=>r xs H Q\/r' xs H Q):=by
 intro aA s σ H xs us Q I rs q
 rcases q with q|q
 ·exact h aA s σ H xs us Q I rs q
 ·exact h' aA s σ H xs us Q I rs q
theorem a65:CallR X (.type "list") (λxs H Q=>∃p ys,xs=[.ref p]/\(SqL X.K H p ys\/SqT X.K H p ys)/\∀l,H l=none->Q (.ref l) (upd H l (.lst ys))):=by
 intro aA s σ H xs us Q I r h
 obtain⟨p,ys,rfl,hq,q⟩:=h;obtain⟨u,rfl,rx⟩:=vals1 r;cases rx
 have fin:∀(its:List Value),Vals ys its->ys.length<=sizeLine->∀(h':Heap) (c':Nat),(∀b o',s.heap.get? b=some o'->h'.get? b=some o')->
   h'.get? s.heap.objs.size=some {cls:=.type "list",dict:=none,data:=.seq its.toArray c',slots := #[]}->EP X aA σ Q (.ref s.heap.objs.size) {s with heap:=h' }:=λits r' hz h' c' kp e =>
  ⟨.ref s.heap.objs.size,_,I.laid (t':=s.toks) kp (ai _) (show ObjOk X.prog X.w _ h' _ (.lst ys) from ⟨hz,its,c',r',e⟩),rfl,q _ (I.hok.fresh (ai _))⟩
 rcases hq with hq|hq
 ·obtain⟨its,r',pl,hz⟩:=I.list hq;have aH:=r'.length;obtain⟨o,ho,hc,n,hd⟩:=pl.isList;exact call_list_seq p (.inl rfl) ho hc hd (λh' c' kp e=>fin its r' hz h' c' kp e) (by simp only[ag]<;>omega)
 ·obtain⟨its,r',pl,hz⟩:=I.tuple hq;have aH:=r'.length;obtain⟨o,ho,hc,n,hd⟩:=pl;exact call_list_seq p (.inr rfl) ho hc hd (λh' c' kp e=>fin its r' hz h' c' kp e) (by simp only[ag]<;>omega)
theorem a09:CallR X (.type "tuple") (λxs H Q=>∃p ys,xs=[.ref p]/\((SqL X.K H p ys/\∀l,H l=none->Q (.ref l) (upd H l (.tup ys)))\/(SqT X.K H p ys/\Q (.ref p) H))):=by
 intro aA s σ H xs us Q I r h
 obtain⟨p,ys,rfl,h⟩:=h;obtain⟨u,rfl,rx⟩:=vals1 r;cases rx
 rcases h with⟨hq,q⟩|⟨hq,q⟩
 ·obtain⟨its,r',pl,hz⟩:=I.list hq;have aH:=r'.length;refine call_tuple_list pl.isList (λh' kp=>?_) (by simp only[ag]<;>omega)
  have I1:Inv X aA σ H {s with heap:=h' }:=I.kept (t':=s.toks) kp
  have I2:Inv X aA σ (upd H h'.objs.size (.tup ys)) {s with heap:=h'.push {cls:=.type "tuple",data:=.seq its.toArray} } :=
   I1.laid (t':=s.toks) (λb o e=>a6 _ e) (ai _) (show ObjOk X.prog X.w _ _ _ (.tup ys) from ⟨hz,its,r',TupD.new _ _⟩)
  exact⟨.ref h'.objs.size,_,I2,rfl,q _ (I1.hok.fresh (ai _))⟩
 ·obtain⟨its,r',pl,hz⟩:=I.tuple hq;exact call_tuple_same pl ⟨.ref p,H,I,rfl,q⟩
def tyV(K:Fg)(T:String)(x:V)(H:Hp):Prop:=match x with
 |.str _=>T = "str"
 |.int _=>T = "int"
 | .ref p=>(T = "list"/\∃xs,SqL K H p xs)\/(T = "tuple"/\((∃o,K.lookup p=some o/\o.cls=.type "tuple"/\o.dict=none)\/∃xs,H p=some (.tup xs))) \/
   (T = "dict"/\((∃kvs,H p=some (.dK kvs))\/∃kvs,H p=some (.dT kvs)))\/(T = "set"/\∃S n,H p=some (.set S n))
 |_=>False
theorem af2(I:Inv X aA σ H s)(r:RelV x v)(ty:tyV X.K T x H) :
  s.TypeIs v T/\∀a,v=.ref a->∃ob,s.heap.get? a=some ob/\ob.dict=none:=by
 cases x with
 |str z =>
  obtain⟨t,rfl⟩:=r
  cases (show T = "str" from ty)
  exact⟨typeIs_str s z t,λ_ e=>nomatch e⟩
 |int i =>
  obtain⟨t,rfl⟩:=r
  cases (show T = "int" from ty)
  exact⟨typeIs_int s i t,λ_ e=>nomatch e⟩
 |ref p =>
  cases r
  rcases ty with⟨rfl,xs,hq⟩|⟨rfl,⟨o,hk,hc,hd⟩|⟨xs,hk⟩⟩|⟨rfl,hk⟩|⟨rfl,S,n,hk⟩
  ·obtain⟨its,_,pl,_⟩:=I.list hq;refine⟨pl.isList.typeIs,λa e=>?_⟩;cases e
   obtain⟨o,n,e,c,hd,_⟩:=pl;exact⟨o,e,hd⟩
  ·refine⟨⟨o,I.kIn p o hk,hc⟩,λa e=>?_⟩;cases e
   exact⟨o,I.kIn _ o hk,hd⟩
  ·obtain⟨_,_,_,o,e,c,_⟩:=(show ObjOk X.prog X.w H s.heap p (.tup xs) from I.hok p _ hk)
   exact⟨⟨o,e,c.1⟩,λa z=>by cases z;exact⟨o,e,c.2⟩⟩
  ·have z:∃o,s.heap.get? p=some o/\o.ExactDict:=by
    rcases hk with⟨kvs,hk⟩|⟨kvs,hk⟩
    ·obtain⟨_,_,_,_,o,_,_,e,ex,_⟩:=I.hok p _ hk;exact⟨o,e,ex⟩
    ·obtain⟨_,_,_,_,o,_,_,e,ex,_⟩:=I.hok p _ hk;exact⟨o,e,ex⟩
   obtain⟨o,e,ex⟩:=z;refine⟨⟨o,e,ex.1⟩,λa e2=>?_⟩;cases e2
   exact⟨o,e,ex.2.1⟩
  ·obtain⟨o,_,_,_,e,ex,_⟩:=I.hok p _ hk;refine⟨⟨o,e,ex.1⟩,λa e2=>?_⟩;cases e2
   exact⟨o,e,ex.2.1⟩
 |_=>exact False.elim ty
def tBM(K:Fg)(T:String)(r:V->List V->Hp->VK->Prop)(to:TE)(t:TA):TE:=λσ H Q=>to σ H λx H1=>tyV K T x H1/\t σ H1 λxs H2=>r x xs H2 Q
variable{o e:Expr}{es:List Expr}{to:TE}{t:TA}{name:Str}{apos cpos:Pos}{T id:String}{r:V->List V->Hp->VK->Prop}
theorem aot(pa:PlainAttrs T)(slot:Slot T name id)(hty:typeOf (.builtin id)=pure (.type "method_descriptor"))(hm:MtR X id r)(ho:PE X o to)(ha:PA X (e::es) t)
  (hbase:attributeBase o name X.env (eval o X.env)=eval o X.env:=by rfl)
  (hfew:((backTo cpos (starEach (e::es) X.env)).all (λx => !x.1) && (backToKw cpos (keywordEach [] X.env)).all (λx=>x.1.isSome)
   && decide ((e::es).length+([]:List Keyword).length+(if ([]:List Keyword).isEmpty then 0 else 1)<30))=true:=by rfl)
  (hline:(apos.endLine == cpos.line)=true:=by rfl) (hs:starEach (e::es) X.env=(false,eval e X.env)::starEach es X.env:=by rfl) (hplain:(backTo cpos (starEach es X.env)).any (·.1)=false:=by rfl) :
  PE X (.Call (.Attribute o name apos) (e::es) [] cpos) (tBM X.K T r to t):=by
 intro aA s σ H Q I h
 refine wpAny_Call_method_late hbase hfew hline rfl (thn (ho aA s σ H _ I h) λv s1 ⟨x,H1,I1,r1,ty,q1⟩=>?_);obtain⟨h1,h2⟩:=af2 I1 r1 ty;refine⟨T,id,pa,slot,hty,h1,h2,?_⟩;have hA:=ha cpos aA s1 σ H1 _ I1 q1;rw[hs]at hA ⊢;refine Calls.callWith_builtin (by show(false || (backTo cpos (starEach es X.env)).any (·.1))=false;rw[hplain]<;>rfl) (Calls.evalArgs_plain ?_)
 exact thn hA λus s2 ⟨vs,H2,I2,r2,q2⟩=>hm aA s2 σ H2 x vs v us Q I2 r1 r2 q2
end
def MtM(X:Cx)(id:String)(r:V->List V->Hp->VK->Prop):Prop :=
 ∀(aA:List (Addr×Obj)) (s:Shared) (σ:St) (H:Hp) (x:V) (xs:List V) (v:Value) (us:List Value) (Q:VK),Inv X aA σ H s->RelV x v->Vals xs us->r x xs H Q->
  wpAny (model X.prog X.w) X.A (call (.builtin id) (v::us)) (EP X aA σ Q) X.xe s
theorem Vals.one:∀{x:V} {us:List Value},Vals [x] us->∃u,us=[u]/\RelV x u
 |_,_,.cons r .nil=>⟨_,rfl,r⟩
theorem Vals.rep(h:Vals xs us):∀k:Nat,Vals (List.replicate k xs).flatten (List.replicate k us).flatten
 |0=>.nil
 |k+1=>by
  rw[bN,bN,b9,b9];exact Vals.append h (Vals.rep h k)
theorem foldl_rep(its:List Value):∀(k:Nat) (acc:List Value),
  List.foldl (λx1 x2=>x1++x2) acc.toArray (List.replicate k its.toArray)=(acc++(List.replicate k its).flatten).toArray
 |0,acc=>by simp
 |k+1,acc=>by
  have e:acc.toArray++its.toArray=(acc++its).toArray:=by simp
  have e2:(acc++its)++(List.replicate k its).flatten=acc++(List.replicate (k+1) its).flatten:=by
   rw[bN,b9,cT]
  rw[<-e2,<-foldl_rep its k (acc++its),<-e,bN,dQ]
section
variable{X:Cx}{aA:List (Addr×Obj)}{σ:St}{H:Hp}{s:Shared}{l b:Addr}{xs ys zs:List V}
theorem Inv.lset{its its':List Value}(I:Inv X aA σ H s)(hH:H l=some (.lst xs))
  (e:s.heap.get? l=some {cls:=.type "list",data:=.seq its.toArray n}) (hf:f its.toArray=its'.toArray) (hv:Vals ys its') (hz:ys.length<=sizeLine) :
  Inv X aA σ (upd H l (.lst ys)) {s with heap:=s.heap.update l (Obj.mapSeq f),toks:=t' }:=by
 have q:=PySem.IsL.update e f;rw[hf]at q;refine I.write (x:=l) (e:=l) (by rw[hH];exact trivial) (.inl rfl) (λb' u hb hu=>(dn s.heap (Obj.mapSeq f) (eJ hb)).trans hu) ⟨_,q⟩ ?_
 exact⟨hz,its',_,hv,q⟩
theorem Inv.lnew(I:Inv X aA σ H s)(hv:Vals ys its)(hz:ys.length<=sizeLine) :
  Inv X aA σ (upd H s.heap.objs.size (.lst ys)) {s with heap:=s.heap.push {cls:=.type "list",data:=.seq its.toArray},toks:=t' } :=
 I.laid (λ_ _ q=>a6 _ q) (ai _) ⟨hz,its,0,hv,ay _ rfl⟩
theorem Inv.fresh(I:Inv X aA σ H s):H s.heap.objs.size=none:=I.hok.fresh (ai _)
theorem Inv.lstM(I:Inv X aA σ H s)(hH:H l=some (.lst xs)):xs.length<=sizeLine/\∃(its:List Value) (n:Nat),Vals xs its/\xs.length=its.length/\s.heap.get? l=some {cls:=.type "list",data:=.seq its.toArray n}:=by
 obtain⟨z,its,n,r,e⟩:=I.hok l _ hH;exact⟨z,its,n,r,r.length,e⟩
theorem adg(h:n<=sizeLine):Builtin.List.listTooLong n=false:=by
 unfold Builtin.List.listTooLong;exact aP (by omega)
end
section
variable{X:Cx}
def aa9:V->List V->Hp->VK->Prop:=λx vs H Q=>∃l xs y,x=.ref l/\vs=[y]/\H l=some (.lst xs)/\xs.length<sizeLine/\Q .non (upd H l (.lst (xs++[y])))
theorem a2d:MtM X "list.append" aa9:=by
 intro aA s σ H x vs v us Q I rx rv h
 obtain⟨l,xs,y,rfl,rfl,hH,hz,q⟩:=h;cases rx
 obtain⟨u,rfl,ru⟩:=rv.one;obtain⟨z,its,n,r,hl,e⟩:=I.lstM hH;refine call_meets F.slot_list_append ⟨_,e,rfl⟩ F.entry_list_append (F.args_list_append_2 _ _) (PySem.list_append l its.toArray n u (by rw[ag];omega)) ⟨e,?_⟩
 refine⟨.non,_,I.lset (its':=its++[u]) hH e (by simp) (r.append (.cons ru .nil)) ?_,rfl,q⟩
 rw[a9,aM];omega
theorem len_rep{α:Type}(xs:List α)(k:Nat):(List.replicate k xs).flatten.length=k*xs.length:=by
 induction k with
 |zero=>simp
 |succ k ih=>rw[bN,b9,a9,ih,Nat.succ_mul,Nat.add_comm]
end
end L2
namespace Att
open PySem.W PySem.Calls PyProof.Rows
theorem a2e:∀(ns:List Int) (vs:List Value),WellAll P h vs (ns.map WData.int)->IntsAre vs ns:=by
 intro ns
 induction ns with
 |nil =>
  intro vs w
  rw[cW]at w;cases w
  exact .nil
 |cons n ns ih =>
  intro vs w
  rw[aT]at w
  cases w with
  |cons a b =>
   cases a
   exact .cons _ _ (ih _ b)
theorem aaa{l:OpenLaw}(hn:l.most=some n)
  (hpre:l.row.toRowW.claim.pre args=true) (hwl:WellAll P h vals args) :
  ∃a vs ns,vals=[Value.ref a]/\args=[WData.list (ns.map WData.int)]/\h.get? a=some {cls:=.type "list",data:=.seq vs.toArray}/\IntsAre vs ns/\ns.length<=n:=by
 have hsh:WShape.hasAll [] args [.list .int]=true:=(pre_splitW hpre).1;have hc:l.pre.holds [] {args:=args}=true:=(pre_splitW hpre).2;obtain⟨d,r,rfl,h1,h2⟩:=hasAllW_cons hsh;obtain rfl:=hasAllW_nil h2;obtain⟨xs,rfl,h3⟩:=hasW_list h1;obtain⟨ns,rfl⟩:=items_int h3;have aH:ns.length<=n:=by
  unfold OpenLaw.pre at hc;have h4:(WTm.not (.lt (.lit (.int (n:Int))) (.len (.arg 0)))).holds [] {args:=[.list (ns.map .int)]}=true:=by
   have h4:=(holds_andW hc).1;rw[hn]at h4;exact h4
  have h5:=condW_of h4 (w_not (w_lt w_lit (w_len_list (w_arg rfl))));rw[aS]at h5;refine Nat.le_of_not_lt λq=>?_;have q':(n:Int)<((ns.length:Nat):Int):=by omega
  first
   |(rw[aQ q']at h5;exact absurd h5 (by decide))
   |(simp at h5;omega)
 cases hwl with
 |cons w1 w2 =>
  cases w2
  cases w1 with
  |list ho hall=>exact⟨_,_,ns,rfl,rfl,ho,a2e ns _ hall,aH⟩
theorem aab(l:OpenLaw)(args:List WData):l.row.toRowW.claim.post args (.bool true) args=true :=
 postW_of (r:=l.row.toRowW) (X:=(true == true))
  (show WShape.has [] (.bool true) .bool=true by first|rfl|decide|simp[WShape.has,WShape.arms,WShape.armsAll])
  (show(WTm.eq .res (.lit (.bool true))).value [] {args:=args,res:=some (.bool true),after:=args}=some (.bool (true == true)) from w_eq_bool (w_res rfl) w_lit) rfl
theorem a76{l:OpenLaw}{d:DefRec}
  (hn:l.most=some n) (hdf:d.params.defaults=[])
  (call:∀(w:World) (s₀ s₁:Shared) (mg mb:Str->Option Value) (fa:Addr) (o:Obj) (pm cd doc:Value) (a:Addr) (vs:List Value) (ns:List Int),
   Ground q loose [] XP w s₀ mg mb s₁.heap->YP w s₁.heap->
   s₁.heap.get? fa=some o->o.data=.func (docDef d.name d.params d.body d.scope pm cd doc)->s₁.heap.CodeRec cd d.name->mg d.name=some (.ref fa)->
   s₁.heap.get? a=some {cls:=.type "list",data:=.seq vs.toArray}->IntsAre vs ns->ns.length<=n->s₁.gens = #[]->
   codeAny (model l.prog w) callerA (.call (.ref fa) ⟨[.ref a],[]⟩) (λr s'=>r=.ok (.ret (.bool true))/\OldK s₁.heap s'.heap/\s'.os=s₁.os/\AllBare s'.gens) s₁) :
  WalkO q loose XP YP l.row.toRowW d [] (λf vs=>PySem.call f vs):=by
 intro w s₀ s₁ mg mb G Y fa o pm cd doc dV kV ho hd hcd hD hmg hg args vals as hpre hlay hrd hwl hlo
 obtain rfl:dV=.none:=Dflts.none hD hdf
 obtain rfl:kV=.none:=Dflts.noKw hD
 obtain⟨a,vs,ns,rfl,rfl,hobj,hints,aH⟩:=aaa hn hpre hwl;refine enter_call (dY (call w s₀ s₁ mg mb fa o pm cd doc a vs ns G Y ho (fd_plain hd) hcd hmg hobj hints aH hg) λr s' hq=>?_);obtain⟨rfl,h2,h3,h4⟩:=hq;exact⟨.inl ⟨.bool true,.bool true,[],rfl,λ_=>rfl,.bool true,aab l _,λ_=>⟨List.Pairwise.nil,λ_ hm=>(nomatch hm)⟩⟩,h2,h3,h4⟩
end Att
namespace L2
open PyProof.Rows
theorem a66:∀{vs:List Value} {ns:List Int},IntsAre vs ns->Vals (ns.map V.int) vs
 |_,_,.nil=>.nil
 |_,_,.cons n t h=>.cons ⟨t,rfl⟩ (a66 h)
def Only(H:Hp):Prop:=∀b,H b=none\/∃o xs,H b=some (.frz o (.lst xs))
theorem adh{K:Fg}{s₁:Shared}{vs:List Value}
  (KX:K.In s₁.heap) (hns:s₁.heap.Ns mainGlobals mg) (hb:s₁.heap.Ns builtinsNs mb) (hbb:∀x:Str,x ≠ "__name__"->mb x=bootBuiltins x) (hlim:s₁.heap.NoLimit) (hg:s₁.gens = #[])
  (ha:s₁.heap.get? a=some {cls:=.type "list",data:=.seq vs.toArray}) (hi:IntsAre vs ns) (hl:ns.length<=sizeLine) (hr:Room k callerA)
  (F:∀base:Heap,K.In base->base.Ns mainGlobals mg->FnOk P w K mg base CX k fa fd [x] sp) (hbind:∀(s:Shared) (u:Value),BindsTo s fd ⟨[u],[]⟩ [(x,u)])
  (hsp:∀H:Hp,Only H->SqL K H a (ns.map V.int)->sp [.ref a] H (λv _=>v=.bl true) λ_ _ _=>False)
  (hCX:∀H e s',CX [] H s₁ (λ_ _ _=>False) e s'->False) :
  codeAny (model P w) callerA (.call (.ref fa) ⟨[.ref a],[]⟩) (λr s'=>r=.ok (.ret (.bool true))/\OldK s₁.heap s'.heap/\s'.os=s₁.os/\AllBare s'.gens) s₁:=by
 have rv:=a66 hi;have lenV:=hi.length;have core:∀H:Hp,Only H->SqL K H a (ns.map V.int)->HOk P w H s₁.heap->(∀b,H b≠none->b=a)->(H a≠none->K.lookup a=none)->
   codeAny (model P w) callerA (.call (.ref fa) ⟨[.ref a],[]⟩) (λr s'=>r=.ok (.ret (.bool true))/\OldK s₁.heap s'.heap/\s'.os=s₁.os/\AllBare s'.gens) s₁:=by
  intro H hO hS hok hA hK
  have base_of:∀{b:Addr} {o:Obj},s₁.heap.get? b=some o->H b=none->(ad0 s₁.heap H).get? b=some o:=λe n=>ad1 e n;have noA:∀{b:Addr} {o:Obj} {es:Array DictEntry} {ep:Nat},s₁.heap.get? b=some o->o.data=.dict es ep->H b=none:=λ{b o es ep} e d=>by
   cases q:H b with
   |none=>rfl
   |some u =>
    have e':b=a:=hA b (by rw[q];simp)
    subst e';rw[ha]at e;cases e
    have d':Data.seq vs.toArray _=Data.dict es ep:=d
    cases d'
  have nsK:∀{b:Addr} {m:Str->Option Value},s₁.heap.Ns b m->(ad0 s₁.heap H).Ns b m:=λ{b m} ⟨o,es,ep,e,d,r⟩=>⟨o,es,ep,base_of e (noA e d),d,r⟩;have hKb:K.In (ad0 s₁.heap H):=λb o e=>base_of (KX b o e) (by
   cases q:H b with
   |none=>rfl
   |some u =>
    have e':b=a:=hA b (by rw[q];simp)
    subst e';rw[hK (by rw[q];simp)]at e;cases e)
  have hM:Mod K mg (ad0 s₁.heap H):=⟨hKb,nsK hns,⟨mb,nsK hb,hbb⟩,let ⟨mc,h1,h2⟩:=hlim; ⟨mc,nsK h1,h2⟩⟩;have e0:Env0 P w K mg (ad0 s₁.heap H) callerA [] s₁ H:=⟨rfl,hM,λb o e=>agl e,Nat.le_of_eq (a9s _ _),trivial,λb hb=>absurd (show b∈([]:List Addr) from hb) (by simp),hok,.of_eq hg⟩
  refine dY ((F _ hKb (nsK hns)).run callerA [] s₁ H ⟨[.ref a],[]⟩ [.ref a] [.ref a] _ _ hr e0 (hbind s₁ (.ref a)) (.cons rfl .nil) (hsp H hO hS)) λr s' h=>?_
  cases r with
  |error e=>exact(hCX H e s' h).elim
  |ok fl =>
   cases fl with
   |next=>exact False.elim h
   |brk=>exact False.elim h
   |cont=>exact False.elim h
   |ret u =>
    obtain⟨v,H',os,bare,un,hok',r',q⟩:=h;have q':v=.bl true:=q;subst q';obtain rfl:u=Value.bool true:=r';refine⟨rfl,OldK.of_keep λb o e=>?_,os,bare⟩
    cases q:H b with
    |none=>exact un.keep b o e q (by intro z;exact absurd (show b∈([]:List Addr) from z) (by simp)) (by simp)
    |some u =>
     rcases hO b with z|⟨ob,xs,z⟩
     ·rw[q]at z;cases z
     ·have z2:=un.frzs b ob _ z;obtain⟨e1,_⟩:=hok b _ z;obtain⟨e2,_⟩:=hok' b _ z2;rw[e]at e1;cases e1
      exact e2
 cases hk:K.lookup a with
 |some o =>
  have e:=KX a o hk;rw[ha]at e;cases e
  refine core (λ_=>none) (λ_=>.inl rfl) (.inr ⟨_,vs.toArray,_,hk,rfl,rfl,rfl,by rw[ag,lenV];exact hl,by simpa using rv⟩) (λb u z=>by have z':(none:Option HO)=some u:=z;cases z') (λb z=>absurd rfl z) λz=>absurd rfl z
 |none =>
  refine core (λb=>if b=a then some (.frz {cls:=.type "list",data:=.seq vs.toArray} (.lst (ns.map V.int))) else none) (λb=>?_) (.inl (.inr ⟨{cls:=.type "list",data:=.seq vs.toArray},aJ rfl⟩)) (λb u z=>?_) (λb z=>?_) λ_=>hk
  ·by_cases hb:b=a
   ·exact .inr ⟨_,_,aJ hb⟩
   ·exact .inl (aY hb)
  ·by_cases hb:b=a
   ·have z':=(aJ hb).symm.trans z
    cases z'
    subst hb;exact⟨ha,by rw[aS];exact hl,vs,_,rv,ha⟩
   ·have z':=(aY hb).symm.trans z
    cases z'
  ·by_cases hb:b=a
   ·exact hb
   ·exact absurd (aY hb) z
theorem ah6{l:PySem.W.OpenLaw}{n k:Nat}{q:Program}{loose:List Str}{XP:(Str->Option Value)->Heap->Prop}{YP:World->Heap->Prop}{d:DefRec}{K:Params->Fg}{CX:World->CXT}{sp:World->Sp}{x:Str}
  (hn:l.most=some n) (hn2:n<=sizeLine) (hdf:d.params.defaults=[]) (hr:Room k callerA)
  (hY:∀(w:World) (h:Heap),YP w h->(K w.params).In h)
  (F:∀(w:World) (mg:Str->Option Value) (fa:Addr) (h:Heap),(K w.params).In h->h.Ns mainGlobals mg->mg d.name=some (.ref fa)->
   ∃fd:FuncData,(∀(s:Shared) (u:Value),BindsTo s fd ⟨[u],[]⟩ [(x,u)]) /\
    ∀base:Heap,(K w.params).In base->base.Ns mainGlobals mg->FnOk l.prog w (K w.params) mg base (CX w) k fa fd [x] (sp w))
  (hsp:∀(w:World) (H:Hp) (a:Addr) (ns:List Int),ns.length<=n->Only H->SqL (K w.params) H a (ns.map V.int)->sp w [.ref a] H (λv _=>v=.bl true) λ_ _ _=>False)
  (hCX:∀(w:World) (H:Hp) (s:Shared) (e:Value) (s':Shared),CX w [] H s (λ_ _ _=>False) e s'->False) :
  PySem.W.WalkO q loose XP YP l.row.toRowW d [] (λf vs=>PySem.call f vs):=by
 refine Att.a76 hn hdf λw s₀ s₁ mg mb fa o pm cd doc a vs ns G Y ho hd hcd hmg hobj hints aH hg=>?_;have KX:=hY w _ Y;obtain⟨fd,hb,hF⟩:=F w mg fa _ KX G.T.g hmg;exact adh KX G.T.g G.T.b G.T.builtins G.T.nolimit hg hobj hints (bX aH hn2) hr hF hb (λH hO hS=>hsp w H a ns aH hO hS) λH e s'=>hCX w H s₁ e s'
def a00(s:Stmt):Arguments:=match s with
 |.FunctionDef _ a _ _ _ _ _ _ _ _=>a
 |_=>{posonlyargs:=[],args:=[],vararg:=none,kwonlyargs:=[],kw_defaults:=[],kwarg:=none,defaults:=[]}
def qz(s:Stmt):List Stmt:=match s with
 |.FunctionDef _ _ b _ _ _ _ _ _ _=>b
 |_=>[]
def bh(s:Stmt):Scope:=match s with
 |.FunctionDef _ _ _ _ _ _ sc _ _ _=>sc
 |_=>{kind:=.function,names:=[],isGenerator:=false,isCoroutine:=false}
abbrev CX0:CXT:=λ_ _ _ _ _ _=>False
abbrev E0:XK:=λ_ _ _=>False
theorem akb:a7v CX0 X E0:=λ_ _ _ _ _ _ _ h=>h.elim
structure Fun (K:Fg) (x qual:Str) (st:Stmt) (f:Addr) (fd:FuncData):Prop where
 ex:∃(oc:Value) (od:Option Addr) (kV doc pm:Value) (an:Option Addr) (cdv ct:Value) (osl:Array (Option Value)),
  fd=PySem.W.fnOf x qual (a00 st) (qz st) (bh st) .none kV doc pm an cdv ct/\K.lookup f=some ⟨oc,od,.func fd,osl⟩/\PySem.W.codeIn K cdv qual=true
 kp:PySem.W.keepIn K (.ref f)=true
section
variable{P:Program}{w:World}{K:Fg}{mg:Str->Option Value}{base:Heap}
theorem Fun.ok{x qual:Str}{st:Stmt}{f:Addr}{fd:FuncData}{N ps:List Str}{k:Nat}{sp:Sp}(F:Fun K x qual st f fd)(S:FnScope N ps (bh st))(len:∀vs H Q E,sp vs H Q E->vs.length=ps.length)
  (hbody:∀(cdv:Value) (A:Around) (outer:List Env) (s:Shared) (H:Hp) (vs:List V) (Q:VK) (E:XK),Room k (A.deeper (envOfC qual (bh st) s.heap.objs.size f cdv))->sp vs H Q E->
   ∃t,PSs (acr CX0 P w K mg base N qual (bh st) f cdv A outer s H E).nox (qz st) t/\t {nx:=λ_ H'=>Q .non H',rt:=Q} (start N vs) H):FnOk P w K mg base CX0 (k+1) f fd ps sp:=by
 obtain⟨oc,od,kV,doc,pm,an,cdv,ct,osl,rfl,lk,hcd⟩:=F.ex;refine aoo lk hcd S len λA outer s H vs Q E hr hsp=>?_;obtain⟨t,h,q⟩:=hbody cdv A outer s H vs Q E hr hsp;exact⟨t,h.nox,q⟩
theorem Fun.binds{x qual:Str}{st:Stmt}{f:Addr}{fd:FuncData}{ps:List Str}(F:Fun K x qual st f fd)
  (h:∀(kV doc pm:Value) (an:Option Addr) (cdv ct:Value) (us:List Value),us.length=ps.length->bindArgs (PySem.W.fnOf x qual (a00 st) (qz st) (bh st) .none kV doc pm an cdv ct) ⟨us,[]⟩=pure (ps.zip us)):Binds K fd ps []:=by
 obtain⟨oc,od,kV,doc,pm,an,cdv,ct,osl,rfl,lk,hcd⟩:=F.ex;exact .all (h kV doc pm an cdv ct)
theorem akc{x qual:Str}{st:Stmt}{f:Addr}{oc:Value}{od an:Option Addr}{osl:Array (Option Value)}{kV doc pm cdv ct:Value}(l:K.lookup f=some ⟨oc,od,.func (PySem.W.fnOf x qual (a00 st) (qz st) (bh st) .none kV doc pm an cdv ct),osl⟩)
  (c:PySem.W.codeIn K cdv qual=true) (k:PySem.W.keepIn K (.ref f)=true):Fun K x qual st f (PySem.W.fnOf x qual (a00 st) (qz st) (bh st) .none kV doc pm an cdv ct):=⟨⟨oc,od,kV,doc,pm,an,cdv,ct,osl,rfl,l,c⟩,k⟩
end
end L2
namespace L2
open PyProof.Rows
section
variable{prog:Program}{w:World}
abbrev iK(prog:Program)(w:World):=intKind prog w
def IsPK(prog:Program)(w:World)(h:Heap)(k:Int×List Int)(a:Addr):Prop :=
 ∃o n t b,h.get? a=some o/\o.cls=.type "tuple"/\o.data=.seq #[.int k.1 t,.ref b] n/\IsTupleKey (iK prog w) h k.2 b
variable{k:Int×List Int}{a b d:Addr}{h h':Heap}
theorem IsPK.ty{s:Shared}(x:IsPK prog w s.heap k a):s.TypeIs (.ref a) "tuple":=let ⟨o,_,_,_,e,c,_⟩:=x; ⟨o,e,c⟩
variable{A:Around}{E:Value->Shared->Prop}{s:Shared}
end
section
variable{κ:Type}[DecidableEq κ]
def af3(kvs:List (κ×V))(k:κ):Option V:=(kvs.find? λkv=>decide (kv.1=k)).map (·.2)
theorem adi{p:κ×V}{r:List (κ×V)}{k:κ}(e:p.1=k):af3 (p::r) k=some p.2:=by simp[af3,cL,e]
theorem adk{p:κ×V}{r:List (κ×V)}{k:κ}(e:¬ p.1=k):af3 (p::r) k=af3 r k:=by simp[af3,cL,e]
theorem RelO.isSome_eq{o:Option V}{u:Option Value}(r:RelO o u):o.isSome=u.isSome:=by
 cases o with
 |none=>cases u with
  |none=>rfl
  |some _=>exact(show False from r).elim
 |some _=>cases u with
  |none=>exact(show False from r).elim
  |some _=>rfl
theorem KV.val{kvs:List (κ×V)}{vs:List (κ×Value)}(r:KV kvs vs)(k:κ):RelO (af3 kvs k) (valueAt vs k):=by
 unfold KV at r
 induction r with
 |nil=>exact True.intro
 |@cons p q ps qs h t ih =>
  obtain⟨h1,h2⟩:=h
  by_cases e:p.1=k
  ·have e':q.1=k:=h1.symm.trans e;have b:valueAt (q::qs) k=some q.2:=by simp[valueAt,cL,e']
   rw[adi e,b];exact h2
  ·have e':¬ q.1=k:=λz=>e (h1.trans z);have b:valueAt (q::qs) k=valueAt qs k:=by simp[valueAt,cL,e']
   rw[adk e,b];exact ih
end
theorem akd{P:Program}{w:World}{k:Key}{u:Value}(r:RelV (kV k) u):(ye P w).is k u=true:=by
 cases k with
 |inl i=>obtain⟨t,e⟩:=(show ∃t,u=Value.int i t from r);subst e;exact a71 P w i t
 |inr x=>obtain⟨t,e⟩:=(show ∃t,u=Value.str x t from r);subst e;exact mj P w x t
def pkH(k:Int×List Int):Int:=reduceHash (Builtin.Tuple.tupleHashOf [hashInt k.1,reduceHash (Builtin.Tuple.tupleHashOf (k.2.map hashInt))])
abbrev NE:=(Int×List Int)×Addr×V
abbrev NX:=(Int×List Int)×Addr×Value
def arw(x:NX):DictEntry:=⟨pkH x.1,.ref x.2.1,x.2.2⟩
def NEX(e:NE)(x:NX):Prop:=e.1=x.1/\e.2.1=x.2.1/\RelV e.2.2 x.2.2
def dAt(a:Addr)(ent:List NE):Heap->Prop:=λh=>(a == sysModules)=false/\∃xs:List NX,Paired NEX ent xs/\∃o es ep,h.get? a=some o/\o.ExactDict/\o.data=.dict es ep/\es.toList=xs.map arw
def NKey(H:Hp)(b:Addr)(k:Int×List Int):Prop:=∃c,H b=some (.tup [.int k.1,.ref c])/\H c=some (.tup (k.2.map V.int))
structure NDict (H:Hp) (a:Addr) (ent:List NE):Prop where
 has:H a=some (.ext (dAt a ent))
 keys:∀e∈ent,NKey H e.2.1 e.1
 nd:(ent.map (·.1)).Nodup
 len:ent.length<=sizeLine
def NDE(H:Hp)(a:Addr)(ent:List NE):Prop:=(NDict H a ent/\ent≠[])\/(H a=some (.dK [])/\ent=[])
def aou(ent:List NE):List ((Int×List Int)×V):=ent.map λe=>(e.1,e.2.2)
section
variable{P:Program}{w:World}{H:Hp}{h:Heap}{a:Addr}
theorem NKey.keeps{H':Hp}{k:Int×List Int}(e:NKey H a k)(ht:∀b ys,H b=some (.tup ys)->H' b=some (.tup ys)):NKey H' a k:=let ⟨c,e1,e2⟩:=e; ⟨c,ht _ _ e1,ht _ _ e2⟩
theorem NDE.keeps{H':Hp}{ent:List NE}(e:NDE H a ent)(ea:H' a=H a)(ht:∀b ys,H b=some (.tup ys)->H' b=some (.tup ys)):NDE H' a ent:=by
 rcases e with⟨e,z⟩|⟨e,r⟩
 ·exact .inl ⟨⟨by rw[ea];exact e.has,λx hx=>(e.keys x hx).keeps ht,e.nd,e.len⟩,z⟩
 ·exact .inr ⟨by rw[ea];exact e,r⟩
end
def aq8(i:Expr):Prop:=∀ov iv,subscripted i false ov iv=operate [ov,iv] (getItem ov iv)
theorem ah7{prog:Program}{w:World}{A:Around}{E:Value->Shared->Prop}{s:Shared}{env:Env}{value slice:Expr}{pos:Pos}{T id:String}{Q:Value->Shared->Prop}
  (hl:typeLookup (.type T) "__getitem__" = pure (some (.builtin id))) (hs:aq8 slice)
  (h:wpAny (model prog w) A (eval value env) (λo s₁=>wpAny (model prog w) A (eval slice env) (λi s₂=>s₂.TypeIs o T/\wpAny (model prog w) A (getItem o i) Q E s₂) E s₁) E s) :
  wpAny (model prog w) A (eval (.Subscript value slice pos) env) Q E s:=by
 refine Subscript_ (bQ h (λo s₁ h₁=>bQ h₁ (λi s₂ h₂=>?_) λ_ _ x=>x) λ_ _ x=>x);obtain⟨hT,h₂⟩:=h₂;unfold subscriptTail;refine a8 ?_;rw[getitemInPython_of_ne hT.not_modules];refine a8 (wpAny_specialOf hT hl ?_);have fin:wpAny (model prog w) A (subscripted slice false o i) (λr s₃=>wpAny (model prog w) A (letTemporaryGo value o r>>=λ_=>pure r) Q E s₃) E s₂:=by
  rw[hs o i];exact wpAny_operating (bQ h₂ (λr s₃ h₃=>a8 (wpAny_letTemporaryGo (aE h₃))) λ_ _ x=>x)
 first
  |exact aE (a8 fin)
  |exact a8 (aE (a8 fin))
  |exact a8 fin
section
variable{X:Cx}
theorem a0a:OpR X (compareOp .Is) (λx y H Q=>∃i j,x=.bl i/\y=.bl j/\Q (.bl (i == j)) H):=by
 intro aA s σ H x y v u Q I rx ry h
 obtain⟨i,j,rfl,rfl,q⟩:=h;cases rx
 cases ry
 exact is_bool (a3m I q rfl)
theorem qw:OpR X (compareOp .LtE) (λx y H Q=>∃i j,x=.str i/\y=.str j/\Q (.bl (!decide (j.cps.toList<i.cps.toList))) H):=by
 intro aA s σ H x y v u Q I rx ry h
 obtain⟨i,j,rfl,rfl,q⟩:=h;obtain⟨t,rfl⟩:=rx;obtain⟨t',rfl⟩:=ry;exact PySem.P.le_str (a3m I q rfl)
def a3f{α:Type}(xs:List α)(lo hi:Option Int):List α:=(xs.drop (HT.sIx xs.length 0 lo)).take (HT.sIx xs.length xs.length hi-HT.sIx xs.length 0 lo)
def aov:V->Option Int->Option Int->Hp->VK->Prop:=λx lo hi H Q=>∃z,x=.str z/\z.length<=sizeLine/\Q (.str ⟨(a3f z.cps.toList lo hi).toArray⟩) H
theorem ake(lo hi:Option Int)(n:Nat):Builtin.Str.strSliceIndices lo hi 1 n=(List.range (HT.sIx n n hi-HT.sIx n 0 lo)).map λk=>HT.sIx n 0 lo+k:=by
 have e1:Builtin.Str.strSliceIndices lo hi 1 n=sliceRange ((HT.sIx n 0 lo:Nat):Int) ((HT.sIx n n hi:Nat):Int) 1:=by
  unfold Builtin.Str.strSliceIndices;dsimp only
  congr 1
  ·cases lo with
   |none=>simp[HT.sIx]
   |some i=>simp only[HT.sIx,show(1:Int) > 0 by decide,dA];split<;>omega
  ·cases hi with
   |none=>simp[HT.sIx]
   |some i=>simp only[HT.sIx,show(1:Int) > 0 by decide,dA];split<;>omega
 rw[e1];exact sliceRange_one _ _
theorem akf{α:Type}(xs:List α)(a:Nat):∀k,a+k<=xs.length->((List.range k).map λj=>a+j).filterMap (xs[·]?)=(xs.drop a).take k
 |0,_=>by simp
 |k+1,h=>by
  rw[List.range_succ,eN,List.filterMap_append,akf xs a k (by omega)]
  have hk:a+k<xs.length:=by omega
  rw[List.take_succ]
  congr 1
  simp[List.getElem?_drop,hk]
theorem akg:SlR X aov:=by
 intro aA s σ H x v vl vu lo hi sl Q I rx hs pl pu h
 obtain⟨z,rfl,hz,q⟩:=h;obtain⟨t,rfl⟩:=rx;refine⟨"str",_,PyProof.Rows.slot_str_getitem.lookup,typeIs_str s z t,?_⟩;have hl:z.cps.toList.length=z.length:=by simp[Str.length]
 have fin:∀(l u:Option (Int×Tok)),vl=partValue l->vu=partValue u->l.map (·.1)=lo->u.map (·.1)=hi->wpAny (model X.prog X.w) X.A (getItem (.str z t) (.ref sl)) (EP X aA σ Q) X.xe s:=by
  intro l u e1 e2 e3 e4
  subst e1 e2;refine wpAny_getItem_str_slice (l:=l) (u:=u) (st:=none) hs rfl ?_;have hp:slicePicked z l u none=(List.range (HT.sIx z.length z.length hi-HT.sIx z.length 0 lo)).map λk=>HT.sIx z.length 0 lo+k:=by
   unfold slicePicked;rw[e3,e4];exact ake lo hi z.length
  have hb1:HT.sIx z.length z.length hi<=z.length:=HT.aa4 _ _ (ai _) _;have hb2:HT.sIx z.length 0 lo<=z.length:=HT.aa4 _ _ (cf _) _;unfold sliceMade
  split
  ·rename_i c;simp only[bI,eX]at c;obtain⟨_,c⟩:=c;rw[hp,aS,dB]at c;have e:(⟨(a3f z.cps.toList lo hi).toArray⟩:Str)=z:=by
    unfold a3f;rw[hl];have z1:HT.sIx z.length 0 lo=0:=by omega
    have z2:HT.sIx z.length z.length hi=z.length:=by omega
    rw[z1,z2,List.drop_zero,Nat.sub_zero,bC (by omega)]
   rw[e]at q;exact⟨.str z,H,I,⟨_,rfl⟩,q⟩
  ·have e:(⟨(a3f z.cps.toList lo hi).toArray⟩:Str)=⟨((slicePicked z l u none).filterMap (z.cps[·]?)).toArray⟩:=by
    rw[hp];unfold a3f;rw[hl]
    by_cases hc:HT.sIx z.length 0 lo<=HT.sIx z.length z.length hi
    ·rw[<-akf z.cps.toList _ _ (by omega)]
     simp only[Array.getElem?_toList]
    ·rw[show HT.sIx z.length z.length hi-HT.sIx z.length 0 lo=0 by omega]
     simp
   rw[e]at q;refine⟨?_,.str _,H,I.tok _,⟨_,rfl⟩,q⟩;rw[<-e];show(a3f z.cps.toList lo hi).toArray.size<=sizeLine;rw[ag];unfold a3f;rw[bE,bF,hl];omega
 cases pl with
 |none=>cases pu with
  |none=>exact fin none none rfl rfl rfl rfl
  |int j t'=>exact fin none (some (j,t')) rfl rfl rfl rfl
 |int i t'=>cases pu with
  |none=>exact fin (some (i,t')) none rfl rfl rfl rfl
  |int j t''=>exact fin (some (i,t')) (some (j,t'')) rfl rfl rfl rfl
theorem gm:CallR X (.builtin "isinstance") (λxs H Q=>∃x T t b,xs=[x,.ty T]/\TyOf X.K H x t/\PySem.W.kitOne X.K t (.type T)=some b/\Q (.bl b) H):=by
 intro aA s σ H xs us Q I r h
 obtain⟨x,T,t,b,rfl,ty,e,q⟩:=h;obtain⟨u,w',rfl,rx,rt⟩:=vals2 r;cases rt
 exact aa2 I rx ty e λtk=>⟨.bl b,H,I.tok tk,rfl,q⟩
theorem a67(bs:List Bool):((List.range bs.length).all λi=>(bs[i]?).getD true)=bs.all id:=by
 have e:(List.range bs.length).map (λi=>(bs[i]?).getD true)=bs:=by
  apply List.ext_getElem (by simp)
  intro i h1 h2
  simp[h2]
 have f:((List.range bs.length).map λi=>(bs[i]?).getD true).all id=bs.all id:=by rw[e]
 rw[<-f,dE];rfl
theorem a2f(hc:X.calm=true):CallR X (.builtin "all") (λxs H Q=>∃(p:Addr) (bs:List Bool),xs=[.ref p]/\SqL X.K H p (bs.map V.bl)/\Q (.bl (bs.all id)) H):=by
 intro aA s σ H xs us Q I r h
 obtain⟨p,bs,rfl,hq,q⟩:=h;obtain⟨u,rfl,rx⟩:=vals1 r;cases rx
 obtain⟨its,r',pl,hz⟩:=I.list hq;have hl:=r'.length;rw[aS]at hl;have hlt:p<s.heap.objs.size:=by obtain⟨_,e,_⟩:=pl.isList;exact ax e
 refine call_all_walk (et pl.isList ?_);refine⟨s.heap.objs.size,[s.heap.objs.size,p],[s.heap.objs.size],its.toArray.size,_,_,λi=>(bs[i]?).getD true,rfl,Walks.list (A:=X.A.in1) (I.ok.hd hc) _ p (br hlt) its.toArray,
  ⟨⟨_,ay _ rfl,rfl,rfl⟩,pl.isList.push _⟩,λi v s' Q' E' hP hQ=>?_,λh' tk hk=>?_⟩
 ·have hP':its[i]? = some v:=by simpa using hP
  have hi:i<bs.length:=by
   have:=(a7.mp hP').1
   omega
  obtain⟨u,e,ru⟩:=r'.get (i:=i) (x:=.bl bs[i]) (by simp[hi])
  rw[hP']at e;cases e
  cases ru
  simp only[ae hi,Option.getD_some]at hQ;exact bL hQ
 ·have e:((List.range its.toArray.size).all λi=>(bs[i]?).getD true)=bs.all id:=by
   rw[ag,<-hl];exact a67 bs
  rw[e];exact⟨.bl _,H,I.kept λb x e=>hk b x (λhm=>by rw[aL.mp hm]at e;exact bR _ (ax e)) (a6 _ e),rfl,q⟩
def sr(x:Str):List V:=x.cps.toList.map λc=>V.str ⟨#[c]⟩
theorem a3p(h:ItemsOf (SignAt x) acc x.cps.size):Vals (sr x) acc.toList:=by
 obtain⟨hs,ha⟩:=h;have key:∀(cs:List Nat) (us:List Value),us.length=cs.length->(∀(j:Nat) (v:Value),us[j]? = some v->∃c u,cs[j]? = some c/\v=.str ⟨#[c]⟩ u)->Vals (cs.map λc=>V.str ⟨#[c]⟩) us:=by
  intro cs
  induction cs with
  |nil=>intro us hl _;cases us with|nil=>exact .nil|cons _ _=>simp at hl
  |cons c cs ih =>
   intro us hl hp
   cases us with
   |nil=>simp at hl
   |cons u us =>
    refine .cons ?_ (ih us (by simpa using hl) λj v e=>hp (j+1) v (by simpa using e))
    obtain⟨c',t,e1,e2⟩:=hp 0 u rfl;simp at e1;subst e1;exact⟨t,e2⟩
 refine key _ _ (by simp[hs]) λj v e=>?_
 obtain⟨c,u,e1,e2⟩:=ha j v (by simpa using e)
 exact⟨c,u,by simpa using e1,e2⟩
theorem a77(hc:X.calm=true):CallR X (.type "list") (λxs H Q=>∃z,xs=[.str z]/\z.length<=sizeLine/\∀l,H l=none->Q (.ref l) (upd H l (.lst (sr z)))):=by
 intro aA s σ H xs us Q I r h
 obtain⟨z,rfl,hz,q⟩:=h;obtain⟨u,rfl,t,rfl⟩:=vals1 r;refine PySem.call_list_str (I.ok.hd hc) z t (λh' tk acc c kp e hi=>?_) (by simpa[Str.length] using hz)
 refine⟨.ref s.heap.objs.size,_,I.laid (t':=tk) kp (ai _) (show ObjOk X.prog X.w _ h' _ (.lst (sr z)) from ⟨by simpa[sr,Str.length] using hz,acc.toList,c,a3p hi,by simpa using e⟩),rfl,q _ (I.hok.fresh (ai _))⟩
theorem a1f(hc:X.calm=true):CallR X (.type "tuple") (λxs H Q=>∃z,xs=[.str z]/\z.length<=sizeLine/\∀l,H l=none->Q (.ref l) (upd H l (.tup (sr z)))):=by
 intro aA s σ H xs us Q I r h
 obtain⟨z,rfl,hz,q⟩:=h;obtain⟨u,rfl,t,rfl⟩:=vals1 r;refine PySem.call_tuple_str (I.ok.hd hc) z t (λh' tk acc kp hi=>?_) (by simpa[Str.length] using hz)
 have I1:Inv X aA σ H {s with heap:=h',toks:=tk}:=I.kept kp
 have I2:Inv X aA σ (upd H h'.objs.size (.tup (sr z))) {s with heap:=h'.push {cls:=.type "tuple",data:=.seq acc},toks:=tk} :=
  I1.laid (t':=tk) (λb o e=>a6 _ e) (ai _) (show ObjOk X.prog X.w _ _ _ (.tup (sr z)) from ⟨by simpa[sr,Str.length] using hz,acc.toList,a3p hi,by simpa using TupD.new h' acc⟩)
 exact⟨.ref h'.objs.size,_,I2,rfl,q _ (I1.hok.fresh (ai _))⟩
end
def Its(x:Str):It:=⟨λi _=>i<x.cps.size,λi H v H'=>H'=H/\∃c,x.cps.toList[i]? = some c/\v=.str ⟨#[c]⟩,λi _=>i=x.cps.size⟩
theorem a7z{P:Program}{w:World}{K:Fg}{tg:Expr}(it:Addr)(x:Str)(t:Tok)(ty:String)
  (hty:["enumerate","zip","dict_itemiterator","dict_reverseitemiterator","odict_iterator","itertools.zip_longest","itertools.pairwise"].contains ty=false)
  (W:∀A':Around,A'.handled=none->Walks P w A' it [it] [it] x.cps.size (SignAt x) (λi h=>h.IsStrIter it ty x t i))
  (slf:∀(A:Around) (i:Nat) (s:Shared) (Q:Value->Shared->Prop) (E:Value->Shared->Prop),s.heap.IsStrIter it ty x t i->Q (.ref it) s->wpAny (model P w) A (pyIter (.ref it)) Q E s) :
  Turn P w K tg (Its x) [it] it (λi h=>h.IsStrIter it ty x t i) where
 mem:=by simp
 obj:=λi h st b hb=>by
  have e:b=it:=by simpa using hb
  subst e;obtain⟨o,e,c,d⟩:=st;exact⟨o,e,λv z=>by rw[d]at z;cases z⟩
 keep:=λi h h' st k=>by
  obtain⟨o,e,c,d⟩:=st;exact⟨o,k it (by simp) o e,c,d⟩
 item:=by
  intro X hP hw hK hc i aA s σ H E I hf st hg
  subst hP hw hK;obtain⟨f0,f1,f2,f3,f4,f5⟩:=hf it (by simp)
  refine(W X.A (I.ok.hd hc)).item i s _ _ hg st λv h' tk hv st' kk=>?_;obtain⟨c,u,hx,rfl⟩:=hv;have I1:Inv X aA σ H {s with heap:=h',toks:=tk}:=I.turned (λb o hb e=>kk b o (by simpa using hb) e) f0 f1 f3 f4 f5
  obtain⟨o,e,oc,d⟩:=id st';exact⟨_,rfl,ad6 (s:={s with heap:=h',toks:=tk}) e oc d hty ⟨.str ⟨#[c]⟩,H,I1,⟨_,rfl⟩,⟨rfl,c,by simpa using hx,rfl⟩,st',λb hb=>(hf b hb).1⟩⟩
 done:=by
  intro X hP hw hK hc i aA s σ H E I hf st hg
  subst hP hw hK;obtain⟨f0,f1,f2,f3,f4,f5⟩:=hf it (by simp)
  have hg':i=x.cps.size:=hg;subst hg';exact(W X.A (I.ok.hd hc)).done s _ _ st λh' tk eb=>⟨rfl,I.turned (λb o hb e=>eb b o (by simpa using hb) e) f0 f1 f3 f4 f5⟩
 self:=slf
section
variable{X:Cx}{tg:Expr}
def arx(tl:TE):TI:=λσ H R=>tl σ H λx H1=>∃z,x=.str z/\R (Its z) H1
theorem af4{l:Expr}{tl:TE}(hl:PE X l tl):PI X tg l (arx tl):=by
 intro aA s σ H R I h
 refine thn (hl aA s σ H _ I h) ?_
 rintro v s1 ⟨x,H1,I1,r1,q1⟩
 obtain⟨z,e,q⟩:=q1;subst e;obtain⟨t,rfl⟩:=r1;have fp:∀b∈[s1.heap.objs.size],a4f X aA H1 b:=λb hb=>by
  have e:b=s1.heap.objs.size:=by simpa using hb
  subst e;exact I1.fpOk (ai _) (I1.hok.fresh (ai _))
 cases ha:z.cps.all (· < 128)
 ·exact wpAny_pyIter_wide ha ⟨s1.heap.objs.size,[s1.heap.objs.size],_,_,H1,rfl,I1.kept (t':=s1.toks) λb o e=>a6 _ e,
   a7z _ z t "str_iterator" (by decide) (λA' hA=>Walks.strWide hA _ z t) (λ_ _ _ _ _ st h=>wpAny_pyIter_striter_wide st h),⟨_,ay _ rfl,rfl,rfl⟩,fp,q⟩
 ·exact wpAny_pyIter_ascii ha ⟨s1.heap.objs.size,[s1.heap.objs.size],_,_,H1,rfl,I1.kept (t':=s1.toks) λb o e=>a6 _ e,
   a7z _ z t "str_ascii_iterator" (by decide) (λA' hA=>Walks.strAscii hA _ z t) (λ_ _ _ _ _ st h=>wpAny_pyIter_striter_ascii st h),⟨_,ay _ rfl,rfl,rfl⟩,fp,q⟩
end
def af5(tt:Option Str)(a:Addr)(cl:List (Str×Addr)):List (Str×Addr):=match tt with
 |none=>cl
 |some t=>(t,a)::cl
def aq9(tt:Option Str)(h:Heap):Heap:=match tt with
 |none=>h
 |some _=>h.push {cls:=.type "cell",data:=.cell none}
def cxG(X:Cx)(N:List Str)(aB:Scope)(cl:List (Str×Addr))(tt:Option Str)(C:Addr)(fp:List Addr)(s:Shared)(H:Hp):Cx where
 prog:=X.prog
 w:=X.w
 K:=X.K
 mg:=X.mg
 base:=X.base
 A:=X.A
 N:=N
 s₀:=s
 H₀:=H
 env:=compEnvC aB (af5 tt (C+1) cl) C X.env
 outer:=X.stack
 stack:=X.stack
 ex:=fp
 fn:=λx=>tt == some x
 calm:=X.calm
 pn:=[]
 xe:=λ_ _=>False
abbrev cxC(X:Cx)(N:List Str)(aB:Scope)(cl:List (Str×Addr))(C:Addr)(fp:List Addr)(s:Shared)(H:Hp):Cx:=cxG X N aB cl none C fp s H
structure CSg (X:Cx) (aB:Scope) (cl:List (Str×Addr)) (tt:Option Str) (ts fr:List Str) (ix:List Nat):Prop where
 clos:closureFor aB X.env=pure cl
 kind:aB.kind=.function
 own:∀a,cellsFrom a aB.names cl=af5 tt a cl
 push:∀h,pushCells h aB.names=aq9 tt h
 names:∀y∈aB.names,y.2=.local->aB.names.lookup y.1=some .local
 sub:∀y c,cl.lookup y=some c->X.env.cells.lookup y=some c
 has:∀y,((relabel aB X.env).names.lookup y=some .cell\/(relabel aB X.env).names.lookup y=some .free)->tt=some y\/∃c,cl.lookup y=some c
 len:ix.length=fr.length
 vis:∀(j:Nat) (y:Str),fr[j]? = some y->tt≠some y/\∃i:Nat,ix[j]? = some i/\X.N[i]? = some y/\(X.env.kindOf y=some .cell\/X.env.kindOf y=some .free)/\((relabel aB X.env).names.lookup y=some .cell\/(relabel aB X.env).names.lookup y=some .free)
abbrev CSc(X:Cx)(aB:Scope)(cl:List (Str×Addr))(ts fr:List Str)(ix:List Nat):Prop:=CSg X aB cl none ts fr ix
theorem a4k:∀{names:List (Str×NameKind)} {a:Nat} {cl:List (Str×Addr)},(∀y∈names,y.2≠.cell)->cellsFrom a names cl=cl
 |[],_,_,_=>rfl
 |(x,k)::r,a,cl,h=>by
  unfold cellsFrom;rw[aY (by have:=h _ aV;simpa using this)]
  exact a4k λy hy=>h y (aR _ hy)
theorem a78:∀{names:List (Str×NameKind)} {h:Heap},(∀y∈names,y.2≠.cell)->pushCells h names=h
 |[],_,_=>rfl
 |(x,k)::r,a,h=>by
  unfold pushCells;rw[aY (by have:=h _ aV;simpa using this)]
  exact a78 λy hy=>h y (aR _ hy)
theorem look{tt:Option Str}{cl:List (Str×Addr)}(e:(af5 tt a cl).lookup y=some c):(tt=some y/\c=a)\/(tt≠some y/\cl.lookup y=some c):=by
 cases tt with
 |none=>exact .inr ⟨nofun,e⟩
 |some t =>
  have e:((t,a)::cl).lookup y=some c:=e;rw[eG]at e
  cases hb:y == t with
  |true=>rw[hb]at e;cases e;exact .inl ⟨ah some (eX.mp hb).symm,rfl⟩
  |false=>rw[hb]at e;exact .inr ⟨λz=>by cases z;simp at hb,e⟩
theorem aac{tt:Option Str}{cl:List (Str×Addr)}(ne:tt≠some y)(e:cl.lookup y=some c):(af5 tt a cl).lookup y=some c:=by
 cases tt with
 |none=>exact e
 |some t =>
  show((t,a)::cl).lookup y=some c;rw[eG];have hb:(y == t)=false:=by rw[bT];exact λz=>ne (ah some z.symm)
  rw[hb];exact e
theorem akh{t:Str}{a:Addr}{cl:List (Str×Addr)}:(af5 (some t) a cl).lookup t=some a:=by
 show((t,a)::cl).lookup t=_;rw[eG];simp
theorem no1(h:C+1<n)(h':n<=C):False:=by omega
theorem no2(h:b<n)(h':n<=C):C+1≠b:=by omega
theorem no3(h:C+1=n)(h':n<=C):False:=by omega
theorem ah8{M:Model}{A:Around}{E:Value->Shared->Prop}{s:Shared}{aB:Scope}{globals:Addr}{cl:List (Str×Addr)}{tt:Option Str}{qual:Str}{func:Option Addr}{code:Value}{outer:Env}{builtins:Addr}{Q:Env->Shared->Prop}
  (own:∀a,cellsFrom a aB.names cl=af5 tt a cl) (push:∀h,pushCells h aB.names=aq9 tt h) (hk:aB.kind=.function)
  (hQ:∀h':Heap,h'.Ns s.heap.objs.size (λ_=>none)->(∀t,tt=some t->h'.IsCell (s.heap.objs.size+1) none)->(∀b o,s.heap.get? b=some o->h'.get? b=some o)->Q (newEnv aB s.heap.objs.size globals (af5 tt (s.heap.objs.size+1) cl) qual func code (some outer) builtins) {s with heap:=h' }) :
  wpAny M A (newFunctionEnv aB globals cl [] qual func code (some outer) builtins) Q E s:=by
 simp only[newFunctionEnv,Option.isSome_some,dA];refine a8 (wpAny_alloc ?_);refine a8 (wpAny_layCells _ (λname kind cells=>by cases hkc:kind == NameKind.cell<;>simp[hkc]) _ _ _ _ ?_)
 rw[own,push];simp only[List.forIn_nil];refine a8 (aE (aE ?_));have sz:({s with heap:=s.heap.push {cls:=.type "dict",data:=.dict #[]} }:Shared).heap.objs.size=s.heap.objs.size+1:=bG ..
 rw[sz]
 cases tt with
 |none=>exact hQ _ (Heap.Ns.new s.heap (.type "dict")) (λ_ z=>nomatch z) λb o e=>a6 _ e
 |some t =>
  refine hQ _ ((Heap.Ns.new s.heap (.type "dict")).keeps λb o e=>a6 _ e) (λ_ _=>⟨{cls:=.type "cell",data:=.cell none},?_,rfl⟩) λb o e=>a6 _ (a6 _ e);rw[<-sz];exact ay _ rfl
def Ext(a b:St):Prop:=b.length=a.length/\∀(i:Nat) v,a[i]? = some (some v)->b[i]? = some (some v)
def yg(nt:Nat)(ix:List Nat)(σ:St):St:=List.replicate nt none++ix.map λi=>(σ[i]?).join
def ah9(J:It)(s0:St)(g:TG)(te:TE)(Q:VK)(H1:Hp):Prop:=∃W:Nat->Nat->List V->Hp->Prop,(∃m,W 0 m [] H1)/\∀i m ys H,W i m ys H->
 (J.stop i H/\∀p,H p=none->Q (.ref p) (upd H p (.lst ys))) \/
 (J.go i H/\ys.length<sizeLine/\∀x H',J.yld i H x H'->g x s0 H' λσ2 H2=>Ext s0 σ2/\te σ2 H2 λy H3=>∃m',m'<m/\W (i+1) m' (ys++[y]) H3)
def aad(wi:TI)(s0:St->St)(g:TG)(te:TE):TE:=λσ H Q=>wi σ H λJ H1=>ah9 J (s0 σ) g te Q H1
def aae(J:It)(s0:St)(g:TG)(tc:TT)(te:TE)(Q:VK)(H1:Hp):Prop:=∃W:Nat->Nat->List V->Hp->Prop,(∃m,W 0 m [] H1)/\∀i m ys H,W i m ys H->
 (J.stop i H/\∀p,H p=none->Q (.ref p) (upd H p (.lst ys))) \/
 (J.go i H/\ys.length<sizeLine/\∀x H',J.yld i H x H'->g x s0 H' λσ2 H2=>Ext s0 σ2/\tc σ2 H2 λok H2'=>if ok=true then te σ2 H2' (λy H3=>∃m',m'<m/\W (i+1) m' (ys++[y]) H3) else ∃m',m'<m/\W (i+1) m' ys H2')
def aaf(wi:TI)(s0:St->St)(g:TG)(tc:TT)(te:TE):TE:=λσ H Q=>wi σ H λJ H1=>aae J (s0 σ) g tc te Q H1
theorem a2g(aD target aF cnd:Expr)(aB:Scope)(pos:Pos)(it acc:Value)(env:Env) :
  compTurn (.ListComp aD [⟨target,aF,[cnd],0⟩] aB pos) 0 it acc env=(standAt aF.pos>>=λ_=>pyNext it>>=λr=>match r with
   |none=>pure (.done .next)
   |some v=>letOwnedTupleGo target it v>>=λ_=>assign target env v>>=λ_=>isTrue cnd env (eval cnd env)>>=λok =>
    (if ok=true then (eval aD env>>=λx=>call (.builtin "list.append") [acc,x]>>=λ_=>pure ()) else pure ())>>=λ_ =>
     again (.compLoop (.ListComp aD [⟨target,aF,[cnd],0⟩] aB pos) 0 it acc env)):=by
 first
  |rfl
  |(unfold compTurn;simp only[cD];rfl)
  | (show(standAt aF.pos>>=λ_=>pyNext it>>=λr=>_)=_
     congr 1;funext _;congr 1;funext r
     cases r with
     |none=>rfl
     |some v =>
      show(letOwnedTupleGo target it v>>=λ_=>assign target env v>>=λ_=>_)=(letOwnedTupleGo target it v>>=λ_=>assign target env v>>=λ_=>_)
      congr 1;funext _;congr 1;funext _
      simp
      congr 1;funext ok
      cases ok with
      |false=>rw[aY aW,aY aW,pure_bind]
      |true =>
       rw[aJ rfl,aJ rfl,bind_assoc]
       congr 1;funext x
       rw[map_eq_pure_bind,bind_assoc]
       congr 1)
def runC(cnd:Option Expr)(env:Env):Sem Bool:=match cnd with
 |none=>pure true
 |some c=>isTrue c env (eval c env)
def PTO(X:Cx)(cnd:Option Expr)(t:TT):Prop :=
 ∀(aA:List (Addr×Obj)) (s:Shared) (σ:St) (H:Hp) (Q:Bool->Hp->Prop),Inv X aA σ H s->t σ H Q->wpAny (model X.prog X.w) X.A (runC cnd X.env) (TP X aA σ Q) X.xe s
theorem a3g(aD target aF:Expr)(cnd:Option Expr)(aB:Scope)(pos:Pos)(it acc:Value)(env:Env) :
  compTurn (.ListComp aD [⟨target,aF,cnd.toList,0⟩] aB pos) 0 it acc env=(standAt aF.pos>>=λ_=>pyNext it>>=λr=>match r with
   |none=>pure (.done .next)
   |some v=>letOwnedTupleGo target it v>>=λ_=>assign target env v>>=λ_=>runC cnd env>>=λok =>
    (if ok=true then (eval aD env>>=λx=>call (.builtin "list.append") [acc,x]>>=λ_=>pure ()) else pure ())>>=λ_ =>
     again (.compLoop (.ListComp aD [⟨target,aF,cnd.toList,0⟩] aB pos) 0 it acc env)):=by
 cases cnd with
 |some c=>exact a2g ..
 |none =>
  rw[show(none:Option Expr).toList=[] from rfl,compTurn_list1]
  congr 1
theorem aag{cnd:Option Expr}{E:Value->Shared->Prop}(no:∀v s,E v s->False)(J:Nat->Shared->Prop)
  (step:∀m z,J m z->wpAny (model prog w) A (pyNext it) (λgot z1=>match got with
   |none=>R (.ok .next) z1
   |some v=>wpAny (model prog w) A (letOwnedTupleGo target it v) (λ_ z2=>wpAny (model prog w) A (assign target env v) (λ_ z3=>wpAny (model prog w) A (runC cnd env) (λok z3'=>if ok=true then wpAny (model prog w) A (eval aD env) (λx z4 =>
     wpAny (model prog w) A (call (.builtin "list.append") [acc,x]) (λ_ z5=>∃m',m'<m/\J m' z5) E z4)
     E z3' else ∃m',m'<m/\J m' z3') E z3) E z2) E z1) E z)
  (m:Nat) (j0:J m s):codeAny (model prog w) A (.compLoop (.ListComp aD [⟨target,aF,cnd.toList,0⟩] aB pos) 0 it acc env) R s:=by
 refine codeAny_loop rfl J (λm z hj=>(wpAny_noted ?_:wpAny _ _ ((compTurn (.ListComp aD [⟨target,aF,cnd.toList,0⟩] aB pos) 0 it acc env).onRaise _) _ _ z)) m j0;rw[a3g];refine a8 (wpAny_standAt (a8 (bQ (step m z hj) (λgot z1 h1=>?_) λ_ _ e=>(no _ _ e).elim)))
 match got,h1 with
 |none,h1=>exact aE h1
 |some v,h1 =>
  refine a8 (bQ h1 (λ_ z2 h2=>a8 (bQ h2 (λ_ z3 h3=>a8 (bQ h3 (λok z3' h3'=>?_) λ_ _ e=>(no _ _ e).elim)) λ_ _ e=>(no _ _ e).elim)) λ_ _ e=>(no _ _ e).elim)
  match ok,h3' with
  |true,h3' =>
   rw[aJ rfl]at h3';refine a8 (a8 (bQ h3' (λx z4 h4=>?_) λ_ _ e=>(no _ _ e).elim));exact a8 (bQ h4 (λ_ z5 h5=>aE (aE ⟨rfl,h5⟩)) λ_ _ e=>(no _ _ e).elim)
  |false,h3' =>
   rw[aY aW]at h3';exact a8 (aE (aE ⟨rfl,h3'⟩))
section
variable{X:Cx}
theorem aah{aA:List (Addr×Obj)}{σ:St}{H:Hp}{s:Shared}{aB:Scope}{cl:List (Str×Addr)}{tt:Option Str}{ts fr:List Str}{ix:List Nat}{C:Addr}{fp:List Addr}(S:CSg X aB cl tt ts fr ix)(I:Inv X aA σ H s)
  (hf:∀b∈fp,a4f X aA H b) (hb:∀b∈fp,b<s.heap.objs.size) (hC:s.heap.objs.size<=C):(cxG X (ts++fr) aB cl tt C fp s H).Ok where
 mod:=I.ok.mod
 kind:=S.kind
 glob:=I.ok.glob
 blt:=I.ok.blt
 above:=hC
 inj:=λx y c h1 h2=>by
  have small:∀z c,cl.lookup z=some c->c<s.heap.objs.size:=λz c e=>let ⟨_,q⟩:=I.cell z c (S.sub z c e);q.lt
  rcases look h1 with⟨e1,rfl⟩|⟨_,e1⟩<;>rcases look h2 with⟨e2,e3⟩|⟨_,e2⟩
  ·exact b6 (e1.symm.trans e2)
  ·exact(no1 (small y _ e2) hC).elim
  ·rw[e3]at e1;exact(no1 (small x _ e1) hC).elim
  ·exact I.ok.inj x y c (S.sub x c e1) (S.sub y c e2)
 has:=λy z=>by
  by_cases h:tt=some y
  ·subst h;exact⟨_,akh⟩
  ·exact(S.has y z).elim (λz=>absurd z h) λ⟨c,e⟩=>⟨c,aac h e⟩
 cab:=λx c h e=>by
  rcases look e with⟨_,rfl⟩|⟨ne,_⟩
  ·show s.heap.objs.size<=C+1;omega
  ·exact absurd (eX.mp h) ne
 hd:=I.ok.hd
 frames:=I.ok.frames
 stk:=.inl rfl
 exf:=λb hb'=>⟨br (aN (hb b hb') hC),λx c e=>by
  rcases look e with⟨_,rfl⟩|⟨_,e⟩
  ·exact no2 (hb b hb') hC
  ·exact(hf b hb').2.2.2.2.1 x c (S.sub x c e)⟩
 bs:=λb o e=>I.bs b o e
 bsz:=bX I.ok.bsz I.sz
 noex:=λb o e hb'=>by
  rcases(hf b hb').2.2.2.1 with z|z
  ·exact I.ok.noex b o e z
  ·exact absurd (aN (ax e) (bX I.ok.bsz z)) (bR _)
 exfs:=λb hb' z=>by
  rcases aO.mp (I.stkSub b z) with e|e
  ·exact(hf b hb').2.1 e
  ·exact(hf b hb').2.2.1 e
 funs:=I.stack
 frf:=λb hb'=>I.stkFree b hb'
theorem a94:(yg nt ix σ).length=nt+ix.length:=by
 unfold yg;rw[a9,cK,aS]
theorem aha{s s4:Shared}{ts:List Str}(S:CSg X aB cl tt ts fr ix)(I:Inv X aA σ H s)
  (hf:∀b∈fp,a4f X aA H b) (hb:∀b∈fp,b<s.heap.objs.size) (hC:s.heap.objs.size<=C)
  (k:∀b o,s.heap.get? b=some o->s4.heap.get? b=some o) (hn:s4.heap.Ns C m) (hcl:∀t,tt=some t->s4.heap.IsCell (C+1) none) (ho:s4.os=s.os) (hg:s4.gens=s.gens) :
  Inv (cxG X (ts++fr) aB cl tt C fp s H) [] (yg ts.length ix σ) H s4 where
 ok:=aah S I hf hb hC
 os:=ho
 bare:=by rw[hg];exact I.bare
 base:=Un.kept k
 loc:=by
  refine⟨m,hn,λi x v e1 e2 e3=>?_⟩;have e1:(ts++fr)[i]? = some x:=e1
  by_cases hi:i<ts.length
  ·unfold yg at e2;rw[aI (by simpa using hi),cC,aJ hi]at e2
   cases e2
  ·rw[ar (by omega)]at e1
   unfold yg at e2;rw[ar (by simpa using hi),cK,bM]at e2
   obtain⟨nt,j,h1,h2,h3,h4⟩:=S.vis _ x e1;rw[h1]at e2;have e2':(σ[j]?).join=some v:=b6 e2;have e5:σ[j]? = some (some v):=by
    cases q:σ[j]? with
    |none=>rw[q]at e2';cases e2'
    |some o=>rw[q]at e2';simp at e2';rw[e2']
   obtain⟨m0,_,hl⟩:=I.loc;have vis:Vis X.env.scope x:=h3.elim (λz=>.inr (.inl z)) λz=>.inr (.inr z);obtain⟨u,ru,l⟩:=hl j x v h2 e5 vis;refine⟨u,ru,?_⟩
   rcases l with⟨z,_⟩|⟨_,c,hc,hcell⟩
   ·rcases h3 with h3|h3<;>rw[h3]at z<;>cases z
   ·rcases S.has x h4 with z|⟨c',hc'⟩
    ·exact absurd z nt
    ·have e6:c'=c:=b6 ((S.sub x c' hc').symm.trans hc);subst e6;obtain⟨o,ho,hd⟩:=hcell;exact .inr ⟨h4,c',aac nt hc',o,k _ _ ho,hd⟩
 cell:=λx c e=>by
  rcases look e with⟨z,rfl⟩|⟨_,e⟩
  ·exact⟨_,hcl _ z⟩
  ·obtain⟨v,o,ho,hd⟩:=I.cell x c (S.sub x c e);exact⟨v,o,k _ _ ho,hd⟩
 free:=I.hok.fresh hC
 freeC:=λx c e=>by
  rcases look e with⟨_,rfl⟩|⟨_,e⟩
  ·exact I.hok.fresh (by omega)
  ·exact I.freeC x c (S.sub x c e)
 pin:=λp hp=>absurd (show p∈([]:List (Addr×Obj)) from hp) (by simp)
 hok:=I.hok.kept k
 len:=by
  rw[a94];show _=(ts++fr).length;rw[a9,S.len]
theorem Inv.unpinned'(I:Inv X aA σ H s):Inv X [] σ H s:=I.pins_of λ_ hp=>nomatch hp
theorem a95{Y:Cx}(I:Inv X aA σ H s)
  (hf:∀b∈fp,a4f X aA H b) (hC:s.heap.objs.size<=C) (hacc:s.heap.objs.size<=acc)
  (q:Y.prog=X.prog/\Y.w=X.w/\Y.fs=frs X.stack/\Y.ex=fp/\Y.env.locals=C/\Y.s₀=s/\Y.H₀=H) (J:Inv Y [] σ' H' s') (hn:H' acc=none) (hob:ObjOk X.prog X.w (upd H' acc ho) h' acc ho) (sb:Heap.SameBut C s'.heap h') :
  Inv X aA σ (upd H' acc ho) {s' with heap:=h' }:=by
 have k:∀b o,b≠C->s'.heap.get? b=some o->h'.get? b=some o:=λb o hb e=>sb.extBut b o hb e;have old:∀b o,s.heap.get? b=some o->b≠C/\b≠acc:=λb o e=>⟨br (aN (ax e) hC),br (aN (ax e) hacc)⟩;obtain⟨q1,q2,q3,q4,q5,q6,q7⟩:=q;have u0:=J.base;rw[q3,q4,q6,q7]at u0;have fC:=J.free;rw[q5]at fC;have jh:=J.hok;rw[q1,q2]at jh;have u:Un (frs X.stack) fp H (upd H' acc ho) s.heap h':=by
  refine⟨λb o e n' hb hx=>k b o (old b o e).1 (u0.keep b o e n' hb hx),λb o e n' hb hx=>?_,λb o e n' hx=>?_,λb o e hx=>?_,λb xs e=>?_,λb o v e=>?_,λb ps e=>?_⟩
  ·obtain⟨sl,e1⟩:=u0.slot b o e n' hb hx;exact⟨sl,k b _ (old b o e).1 e1⟩
  ·rw[j6 (old b o e).2];exact u0.free b o e n' hx
  ·obtain⟨o',e1⟩:=u0.there b o e hx;exact⟨o',k b _ (old b o e).1 e1⟩
  ·rw[j6 (ie (u0.tups b xs e) hn)];exact u0.tups b xs e
  ·rw[j6 (ie (u0.frzs b o v e) hn)];exact u0.frzs b o v e
  ·obtain⟨more,e1⟩:=u0.tbls b ps e;exact⟨more,by rw[j6 (ie e1 hn)];exact e1⟩
 have hok:HOk X.prog X.w (upd H' acc ho) h':=λb o e=>by
  by_cases hb:b=acc
  ·subst hb;rw[qp]at e;cases e
   exact hob
  ·rw[j6 hb]at e;refine(jh b o e).stay (λc v hc q=>k c v ?_ q) (λc q=>by rw[j6 (ie q hn)];exact q) λc xs q=>by rw[j6 (ie q hn)];exact q
   rcases hc with z|z
   ·rw[z];exact ie e fC
   ·exact ie z fC
 have J':=I.call (g':=s'.gens) (t':=s'.toks) (d':=s'.drawn) (ch:=fp) u hok J.bare λb hb=>⟨(hf b hb).2.2.2.1,(hf b hb).2.1,(hf b hb).2.2.2.2.1,(hf b hb).2.2.2.2.2⟩;have eo:=J.os;rw[q6]at eo;obtain⟨hp,g,d,t,o⟩:=s';have eo':o=s.os:=eo;subst eo';exact J'
theorem aow{Y:Cx}(ok:Y.Ok)(hp:Y.pn=[])(hn:H' b=none)(hb:b∈Y.ex):a4f Y [] H' b :=
 ⟨hn,(ok.exf b hb).1,ok.exfs b hb,.inl hb,(ok.exf b hb).2,λp h=>by rw[hp]at h;exact absurd h (by simp)⟩
theorem aki{Y:Cx}(ok:Y.Ok)(hp:Y.pn=[])(hn:H' b=none)(hb:b=Y.s₀.heap.objs.size)(hl:b≠Y.env.locals)(hc:∀x c,Y.env.cells.lookup x=some c->c≠b):a4f Y [] H' b :=
 ⟨hn,hl,λz=>by
  obtain⟨_,o,ho,_⟩:=ok.funs.mem z;exact bR _ (aN (ax ho) (Nat.le_of_eq hb.symm)),.inr (Nat.le_of_eq hb.symm),hc,λp h=>by rw[hp]at h;exact absurd h (by simp)⟩
theorem ahb(I:Inv X aA σ H s)(e:X.env.cells.lookup x=some c):c≠s.heap.objs.size:=λz=>by
 obtain⟨v,o,ho,_⟩:=I.cell x c e;rw[z]at ho;exact bR _ (ax ho)
def a4l(X:Cx)(aA:List (Addr×Obj))(σ:St)(use:Option (Value->Sem Unit))(Q:VK)(Qf:Value->Shared->Prop):Prop :=
 ∀(acc C:Addr) (s6:Shared) (H6:Hp) (m6:Str->Option Value),s6.heap.Ns C m6->a4f X aA H6 C->(∀h',Heap.SameBut C s6.heap h'->Inv X aA σ H6 {s6 with heap:=h' })->Q (.ref acc) H6->
  compPost (model X.prog X.w) X.A X.xe use Qf (.ref acc) C (.ok .next) s6
theorem adl:a4l X aA σ none Q (EP X aA σ Q):=λacc C s6 H6 m6 hn _ k q=>⟨m6,hn,λh' sb=>⟨.ref acc,H6,k h' sb,rfl,q⟩⟩
theorem adm{D:Ends}(hN:X.N.Nodup)(hi:X.N[i]? = some x)(hx:Loc X.env.scope x)(hf:X.fn x=true\/X.env.scope.names.lookup x=some .local) :
  a4l X aA σ (some (assign (.Name x pos') X.env)) (λv H1=>a4d i v σ H1 D.nx) (λ_ s'=>SP X aA D .next s'):=by
 intro acc C s6 H6 m6 hn fp k q
 obtain⟨f1,f2,f3,f4,f5,f6⟩:=fp;have I6:Inv X aA σ H6 s6:=k s6.heap (Heap.SameBut.refl _ _);refine wpAny_assign_Name (a5l (v:=.ref acc) I6 hN hi hx rfl (λs' I' ⟨a,sb,ha⟩=>⟨m6,hn.sameBut sb ?_,λh' sb'=>⟨_,H6,I'.turned (t':=s'.toks) (it:=C) (λb o hb e=>sb'.extBut b o hb e) f1 f2 f4 f5 f6,q⟩⟩) hf)
 rcases ha with ha|ha
 ·rw[ha];exact f2
 ·exact λz=>f5 x a ha z.symm
theorem aai{Y:Cx}{cnd:Option Expr}{N it:Addr}{fp:List Addr}{tn:Nat->Heap->Prop}{J:It}{σ0:St}{H2:Hp}{s4:Shared}{W:Nat->Nat->List V->Hp->Prop}{Q:VK}(hc:Y.calm=true)(no:∀v s,Y.xe v s->False)(hp0:Y.pn=[])(T:Turn Y.prog Y.w Y.K tg J fp it tn)
  (stat:∀{H':Hp},(∀b∈fp,H' b=none)->∀b∈fp,a4f Y [] H' b) (statA:∀{H':Hp},H' N=none->a4f Y [] H' N) (accF:N∉fp) (hg:PG Y tg g) (he:PE Y aD te) (ht:PTO Y cnd tc)
  (turn:∀i m ys H,W i m ys H->(J.stop i H/\∀p,H p=none->Q (.ref p) (upd H p (.lst ys)))\/(J.go i H/\ys.length<sizeLine/\∀x H',J.yld i H x H'->g x σ0 H' λσ2 H2=>Ext σ0 σ2/\tc σ2 H2 λok H2'=>if ok=true then te σ2 H2' (λy H3=>∃m',m'<m/\W (i+1) m' (ys++[y]) H3) else ∃m',m'<m/\W (i+1) m' ys H2'))
  (w0:W 0 m0 [] H2) (K0:Inv Y [] σ0 H2 s4) (st4:tn 0 s4.heap) (f0:∀b∈fp,H2 b=none) (fa:H2 N=none) (hacc:s4.heap.get? N=some {cls:=.type "list",data:=.seq ([]:List Value).toArray 0})
  (fin:∀s6 H6 ys its k,Inv Y [(N,{cls:=.type "list",data:=.seq its.toArray k})] σ0 H6 s6->H6 N=none->Vals ys its->ys.length<=sizeLine->(∀p,H6 p=none->Q (.ref p) (upd H6 p (.lst ys)))->R (.ok .next) s6) :
  codeAny (model Y.prog Y.w) Y.A (.compLoop (.ListComp aD [⟨tg,aF,cnd.toList,0⟩] aB pos) 0 (.ref it) (.ref N) Y.env) R s4:=by
 refine aag no (λn s'=>∃i σ' H' ys its k,Inv Y [] σ' H' s'/\Ext σ0 σ'/\tn i s'.heap/\(∀b∈fp,H' b=none)/\H' N=none /\
  s'.heap.get? N=some {cls:=.type "list",data:=.seq its.toArray k}/\Vals ys its/\ys.length<=sizeLine/\W i n ys H') ?_ m0
  ⟨0,_,H2,[],[],0,K0,⟨rfl,λ_ _ z=>z⟩,st4,f0,fa,hacc,.nil,cf _,w0⟩
 rintro n s5 ⟨i,σ5,H5,ys,its,k5,I5,x5,st5,fr5,fa5,ac5,rv5,hz5,w5⟩
 have I5':Inv Y [] σ0 H5 s5:=I5.weak x5.1.symm x5.2;obtain⟨ob,hob⟩:∃ob:Obj,ob={cls:=.type "list",data:=.seq its.toArray k5}:=⟨_,rfl⟩;rw[<-hob]at ac5;have IP:Inv Y [(N,ob)] σ0 H5 s5:=I5'.pins_of λp hp=>by
  rw[aL.mp hp];obtain⟨a0,a1,a2,_⟩:=statA fa5;exact⟨ac5,a0,a1,a2,λv z=>by rw[hob]at z;cases z⟩
 have FB:∀b∈fp,a4f Y [(N,ob)] H5 b:=λb hb=>by
  obtain⟨b0,b1,b2,b3,b4,b5⟩:=stat fr5 b hb;refine⟨b0,b1,b2,b3,b4,λp hp=>?_⟩;rw[hp0]at hp;rw[aL.mp hp];exact λz=>accF (by have z':N=b:=z;rw[z'];exact hb)
 rcases turn i n ys H5 w5 with⟨stop,qn⟩|⟨go,hlt,step⟩
 ·refine thn (T.done Y rfl rfl rfl hc i [(N,ob)] s5 _ H5 _ IP FB st5 stop) ?_
  rintro r s6 ⟨hr,I6⟩
  subst hr;rw[hob]at I6;exact fin s6 H5 ys its k5 I6 fa5 rv5 hz5 qn
 ·refine thn (T.item Y rfl rfl rfl hc i [(N,ob)] s5 _ H5 _ IP FB st5 go) ?_
  rintro r s6 ⟨u,hr,h6⟩
  subst hr;refine thn h6 ?_
  rintro _ s7 ⟨x,H7,I7,r7,y7,st7,fr7⟩
  obtain⟨ac7,fa7,_⟩:=I7.pin (N,ob) (by simp)
  have I7':Inv Y (a1z (N::fp) s7.heap) σ0 H7 s7:=by
   show Inv Y ([]++a1z (N::fp) s7.heap) _ _ _;refine Inv.pinned I7.unpinned' (λb hb=>?_) λb hb=>?_
   ·rcases aO.mp hb with e|e
    ·subst e;exact statA fa7
    ·exact stat fr7 b e
   ·rcases aO.mp hb with e|e
    ·subst e;exact⟨_,ac7,λv z=>by rw[hob]at z;cases z⟩
    ·exact T.obj _ _ st7 b e
  have keep:∀{σ':St} {H9:Hp} {s9:Shared} {ps:List (Addr×Obj)},Inv Y (a1z (N::fp) s7.heap) σ' H9 s9->(s9.heap.get? N=some ob/\H9 N=none)/\∀b∈fp,(∀o,s7.heap.get? b=some o->s9.heap.get? b=some o)/\H9 b=none:=λI9=>by
   refine⟨?_,λb hb=>?_⟩
   ·obtain⟨z1,z2,_⟩:=I9.pin (N,ob) (bb _ (yr aV ac7));exact⟨z1,z2⟩
   ·obtain⟨o,e,_⟩:=T.obj _ _ st7 b hb;obtain⟨z1,z2,_⟩:=I9.pin (b,o) (bb _ (yr (aR _ hb) e));exact⟨λo' e'=>by rw[e]at e';cases e';exact z1,z2⟩
  refine thn (hg _ s7 _ H7 x u _ I7' r7 (step x H7 y7)) ?_
  rintro _ s8 ⟨σ8,H8,I8,x8,q8⟩
  refine thn (ht _ s8 _ H8 _ I8 q8) ?_
  rintro ok s8' ⟨H8',I8',q8'⟩
  cases ok with
  |false =>
   rw[aY aW]at q8' ⊢;obtain⟨m',hm',w9⟩:=q8';obtain⟨⟨ac9,fa9⟩,k9⟩:=keep (ps:=[]) I8';exact⟨m',hm',i+1,σ8,H8',ys,its,k5,I8'.unpinned',x8,T.keep _ _ _ st7 λb hb o e=>(k9 b hb).1 o e,λb hb=>(k9 b hb).2,fa9,by rw[ac9,hob],rv5,hz5,w9⟩
  |true =>
   rw[aJ rfl]at q8' ⊢;refine thn (he _ s8' _ H8' _ I8' q8') ?_
   rintro yv s9 ⟨y,H9,I9,r9,m',hm',w9⟩
   obtain⟨⟨ac9,fa9⟩,k9⟩:=keep (ps:=[]) I9;rw[hob]at ac9;have hl:=rv5.length;refine call_meets F.slot_list_append ⟨_,ac9,rfl⟩ F.entry_list_append (F.args_list_append_2 _ _) (PySem.list_append N its.toArray k5 yv (by rw[ag];omega)) ⟨ac9,?_⟩
   have q:=PySem.IsL.update ac9 (λa=>a.push yv);have qo:∀b o,b≠N->s9.heap.get? b=some o->(s9.heap.update N (Obj.mapSeq (λa=>a.push yv))).get? b=some o:=λb o hb e=>(dn s9.heap _ (eJ hb)).trans e;have q':∃k,(s9.heap.update N (Obj.mapSeq (λa=>a.push yv))).get? N=some {cls:=.type "list",data:=.seq (its++[yv]).toArray k}:=⟨_,by rw[q];simp;rfl⟩
   obtain⟨k9',q9⟩:=q';obtain⟨a0,a1,a2,a3,a4,a5⟩:=statA fa9;refine⟨m',hm',i+1,σ8,H9,ys++[y],its++[yv],k9',(I9.unpinned').turned qo a0 a1 a3 a4 a5,x8,T.keep _ _ _ st7 λb hb o e=>qo b o (λz=>accF (z ▸ hb)) ((k9 b hb).1 o e),λb hb=>(k9 b hb).2,fa9,q9,rv5.append (.cons r9 .nil),?_,w9⟩;rw[a9,aM];omega
theorem a96{aD tg aF:Expr}{cnd:Option Expr}{aB:Scope}{pos ppos:Pos}{cl:List (Str×Addr)}{tt:Option Str}{ts fr:List Str}{ix:List Nat}{wi:TI}{g:TG}{tc:TT}{te:TE}(hc:X.calm=true)(S:CSg X aB cl tt ts fr ix)(hi:PI X tg aF wi)
  (hg:∀C fp s H,PG (cxG X (ts++fr) aB cl tt C fp s H) tg g) (he:∀C fp s H,PE (cxG X (ts++fr) aB cl tt C fp s H) aD te) (ht:∀C fp s H,PTO (cxG X (ts++fr) aB cl tt C fp s H) cnd tc) (hs:∀x,foldedSetIterable aF X.env x=pure x)
  (use:Option (Value->Sem Unit)) {aA:List (Addr×Obj)} {s:Shared} {σ:St} {H:Hp} {Q:VK} {Qf:Value->Shared->Prop} (I:Inv X aA σ H s) (h:aaf wi (yg ts.length ix) g tc te σ H Q) (fin:a4l X aA σ use Q Qf) :
  wpAny (model X.prog X.w) X.A (comprehension (.ListComp aD [⟨tg,aF,cnd.toList,0⟩] aB pos) aB X.env ppos (newList []) false (eval aF X.env) use) Qf X.xe s:=by
 refine wpAny_comprehension_free (use:=use) rfl hs S.clos S.kind S.names (thn (hi aA s σ H _ I h) λv s1 h1=>thn h1 λitv s2 h2=>?_);obtain⟨it,fp,tn,J,H2,e,I2,T,st2,f2,W,⟨m0,w0⟩,turn⟩:=h2;subst e;have hob:∀b∈fp,b<s2.heap.objs.size:=λb hb=>let ⟨o,e,_⟩:=T.obj _ _ st2 b hb;ax e;refine bS (ah8 S.own S.push S.kind λh4 hns4 hc4 hsb4=>?_);dsimp only at hns4 hc4 hsb4 ⊢
 generalize hH2:s2.heap.push {cls:=.type "list",dict:=none,data:=.seq ([]:List Value).toArray}=G at hns4 hc4 hsb4 ⊢
 have hCs:G.objs.size=s2.heap.objs.size+1:=by rw[<-hH2,bG]
 have hCle:s2.heap.objs.size<=G.objs.size:=by omega
 have hne:G.objs.size≠s2.heap.objs.size:=by omega
 have old:∀b o,s2.heap.get? b=some o->h4.get? b=some o:=λb o e=>by
  have hlt:=ax e;exact hsb4 b o (hH2 ▸ a6 _ e)
 have hacc:h4.get? s2.heap.objs.size=some {cls:=.type "list",data:=.seq ([]:List Value).toArray 0} :=
  hsb4 _ _ (hH2 ▸ ay _ rfl)
 have K0:Inv (cxG X (ts++fr) aB cl tt G.objs.size fp s2 H2) [] (yg ts.length ix σ) H2 {s2 with heap:=h4} :=
  aha S I2 f2 hob hCle old hns4 hc4 rfl rfl
 have st4:tn 0 h4:=T.keep _ _ _ st2 λb _ o e=>old b o e;have accF:s2.heap.objs.size∉fp:=λz=>bR _ (hob _ z);have stat:∀{H':Hp},(∀b∈fp,H' b=none)->∀b∈fp,a4f (cxG X (ts++fr) aB cl tt G.objs.size fp s2 H2) [] H' b:=λhn b hb =>
  aow (aah S I2 f2 hob hCle) rfl (hn b hb) hb
 have statA:∀{H':Hp},H' s2.heap.objs.size=none->a4f (cxG X (ts++fr) aB cl tt G.objs.size fp s2 H2) [] H' s2.heap.objs.size:=λhn =>
  aki (aah S I2 f2 hob hCle) rfl hn rfl (eJ hne) λx c e=>by
   rcases look e with⟨_,rfl⟩|⟨_,e⟩
   ·exact λz=>no3 z hCle
   ·exact ahb I2 (S.sub x c e)
 have loop:codeAny (model X.prog X.w) X.A (.compLoop (.ListComp aD [⟨tg,aF,cnd.toList,0⟩] aB pos) 0 (.ref it) (.ref s2.heap.objs.size) (compEnvC aB (af5 tt (G.objs.size+1) cl) G.objs.size X.env))
   (compPost (model X.prog X.w) X.A X.xe use Qf (.ref s2.heap.objs.size) G.objs.size) {s2 with heap:=h4} :=
  aai (Y:=cxG X (ts++fr) aB cl tt G.objs.size fp s2 H2) hc (λ_ _ h=>h) rfl T stat statA accF (hg _ _ _ _) (he _ _ _ _) (ht _ _ _ _) turn w0 K0 st4 (λb hb=>(f2 b hb).1) (I2.hok.fresh (ai _)) hacc λs6 H6 ys its k I6 fa rv hz qn=>by
   have e6:=(I6.pin (s2.heap.objs.size,{cls:=.type "list",data:=.seq its.toArray k}) (by show _∈[]++[_];simp)).1
   obtain⟨m6,hn6,_⟩:=I6.loc;exact fin _ _ s6 _ m6 hn6 (I2.fpOk hCle (by rw[j6 hne];exact I6.free)) (λh' sb=>a95 (Y:=cxG X (ts++fr) aB cl tt G.objs.size fp s2 H2) (ho:=.lst ys) I2 f2 hCle (ai _) ⟨rfl,rfl,rfl,rfl,rfl,rfl,rfl⟩ I6.unpinned' fa ⟨hz,its,k,rv,sb.extBut _ _ (eJ hne) e6⟩ sb) (qn _ fa)
 exact codeAny_compStart_list loop (T.self _ 0 _ _ _ st4 loop)
theorem a68(hc:X.calm=true)(S:CSc X aB cl ts fr ix)(hi:PI X tg aF wi)
  (hg:∀C fp s H,PG (cxC X (ts++fr) aB cl C fp s H) tg g) (he:∀C fp s H,PE (cxC X (ts++fr) aB cl C fp s H) aD te) (hs:∀x,foldedSetIterable aF X.env x=pure x)
  (use:Option (Value->Sem Unit)) (I:Inv X aA σ H s) (h:aad wi (yg ts.length ix) g te σ H Q) (fin:a4l X aA σ use Q Qf) :
  wpAny (model X.prog X.w) X.A (comprehension (.ListComp aD [⟨tg,aF,[],0⟩] aB pos) aB X.env ppos (newList []) false (eval aF X.env) use) Qf X.xe s:=by
 refine a96 (cnd:=none) (tc:=λσ H Q=>Q true H) hc S hi hg he (λ_ _ _ _ aA s σ H Q I h=>aE ⟨H,I,h⟩) hs use I ?_ fin;unfold aaf aae;unfold aad ah9 at h;simpa only[dA] using h
theorem adn(hc:X.calm=true)(S:CSc X aB cl ts fr ix)(hi:PI X tg aF wi)
  (hg:∀C fp s H,PG (cxC X (ts++fr) aB cl C fp s H) tg g) (he:∀C fp s H,PE (cxC X (ts++fr) aB cl C fp s H) aD te)
  (hs:∀x,foldedSetIterable aF X.env x=pure x:=by intro _;rfl) :
  PE X (.ListComp aD [⟨tg,aF,[],0⟩] aB pos) (aad wi (yg ts.length ix) g te):=by
 intro aA s σ H Q I h
 rw[eval_ListComp];exact a68 hc S hi hg he hs none I h adl
theorem ado{spos:Pos}(hN:X.N.Nodup)(hi':X.N[i]? = some x)(hx:Loc X.env.scope x)(hc:X.calm=true)(S:CSc X aB cl ts fr ix)(hi:PI X tg aF wi)
  (hg:∀C fp s H,PG (cxC X (ts++fr) aB cl C fp s H) tg g) (he:∀C fp s H,PE (cxC X (ts++fr) aB cl C fp s H) aD te)
  (hs:∀x,foldedSetIterable aF X.env x=pure x:=by intro _;rfl) (hsw:swapsWith (.ListComp aD [⟨tg,aF,[],0⟩] aB pos) (some (.Name x pos')) spos.line X.env=pure true:=by rfl) (hf:Hf X x:=by first|exact .inl rfl|exact .inr rfl|assumption) :
  PS X (.Assign [.Name x pos'] (.ListComp aD [⟨tg,aF,[],0⟩] aB pos) spos) (aoe (aad wi (yg ts.length ix) g te) (a4d i)):=by
 intro aA s σ H D I h
 rw[exec_Assign_Name_used _ _ _ _ hsw];refine a8 (wpAny_standAt (a8 ?_));refine a8 (bQ (a68 hc S hi hg he hs (some (assign (.Name x pos') X.env)) I h (adm hN hi' hx hf)) (λ_ s' hq=>aE (aE hq)) λ_ _ e=>e)
end
section
variable{K:Type}[DecidableEq K]
def stepK(l:List K)(v:K):List K:=if v∈l then l else l++[v]
def a1k(l:List K):List K:=l.foldl stepK []
theorem aaj(l:List K)(v k:K):k∈stepK l v↔k∈l\/k=v:=by
 unfold stepK;split
 ·rename_i h
  constructor
  ·exact .inl
  ·rintro(z|rfl)
   ·exact z
   ·exact h
 ·simp
theorem a69(l:List K)(v:K):(stepK l v).length=if v∈l then l.length else l.length+1:=by
 unfold stepK;split<;>simp
theorem a0s:∀(l acc:List K),acc.Nodup->(l.foldl stepK acc).Nodup/\(l.foldl stepK acc).length<=acc.length+l.length/\((l.foldl stepK acc).length=acc.length+l.length↔(acc++l).Nodup)
 |[],acc,h=>by simp[h]
 |v::l,acc,h=>by
  rw[dQ];unfold stepK
  split
  ·rename_i hv;obtain⟨h1,h2,h3⟩:=a0s l acc h;unfold stepK at h1 h2 h3;refine⟨h1,by rw[af];omega,?_⟩
   constructor
   ·intro e;rw[af]at e;omega
   ·intro e
    have:=(bq.mp e).2.2 v hv v aV
    exact absurd rfl this
  ·rename_i hv;obtain⟨h1,h2,h3⟩:=a0s l (acc++[v]) (by
    rw[bq];exact⟨h,by simp,λa ha b hb=>by rw[aL]at hb;subst hb;rintro rfl;exact hv ha⟩)
   unfold stepK at h1 h2 h3;rw[a9,aM]at h2 h3;rw[cT,List.singleton_append]at h3;refine⟨h1,by rw[af];omega,?_⟩
   rw[<-h3,af];omega
theorem a6a(l:List K):((a1k l).length=l.length)↔l.Nodup:=by
 have h:=(a0s l [] dD).2.2;rw[aK,Nat.zero_add,cM]at h;exact h
theorem aak{J:Type}[DecidableEq J](f:K->J)(hf:∀a b,f a=f b->a=b)(l:List K):a1k (l.map f)=(a1k l).map f:=by
 have key:∀(l acc:List K),(l.map f).foldl stepK (acc.map f)=(l.foldl stepK acc).map f:=by
  intro l
  induction l with
  |nil=>intro acc;rfl
  |cons v l ih =>
   intro acc
   rw[aT,dQ,dQ];have e:stepK (acc.map f) (f v)=(stepK acc v).map f:=by
    unfold stepK
    by_cases hv:v∈acc
    ·rw[aJ hv,aJ (List.mem_map_of_mem hv)]
    ·rw[aY hv,aY (λz=>by
      obtain⟨a,ha,e⟩:=e8.mp z;rw[hf a v e]at ha;exact hv ha)]
     simp
   rw[e,ih]
 exact key l []
def a79(val:Nat->K)(i:Nat):List K:=a1k ((List.range i).map val)
theorem a2h(val:Nat->K)(i:Nat):a79 val (i+1)=stepK (a79 val i) (val i):=by
 unfold a79 a1k;rw[List.range_succ,eN,List.foldl_append];rfl
theorem aal(val:Nat->K):∀i,(a79 val i).length<=i
 |0=>by simp[a79,a1k]
 |i+1=>by
  rw[a2h,a69];have:=aal val i
  split<;>omega
end
section
variable{prog:Program}{w:World}{K:Type}[DecidableEq K]{knd:KeyKind prog w K}{A:Around}{R:Result->Shared->Prop}
def Held(knd:KeyKind prog w K)(S:Addr)(val:Nat->K)(i:Nat)(h:Heap):Prop:=h.SetOf knd S (λk=>decide (k∈a79 val i)) (a79 val i).length
theorem Held.keep{h':Heap}(x:Held knd S val i h)(k:∀o,h.get? S=some o->h'.get? S=some o):Held knd S val i h':=by
 obtain⟨o,es,ep,t,e,aG⟩:=x;exact⟨o,es,ep,t,k o e,aG⟩
theorem adp{s:Shared}(is:knd.is (val i) v=true)(sc:v.scannable=true)(few:i+1<scanBound)(x:Held knd S val i s.heap)
  (q:∀b h' tk,Held knd S val (i+1) h'->(∀c,c≠S->h'.get? c=s.heap.get? c)->Q b {s with heap:=h',toks:=tk}):wpAny (model prog w) A (setAdd S v) Q E s:=by
 have le:=aal val i;have key:∀k,(decide (k∈a79 val i) || decide (k=val i))=decide (k∈a79 val (i+1)):=λk=>by
  rw[a2h,Bool.eq_iff_iff];simp[aaj]
 have num:(if decide (val i∈a79 val i)=true then (a79 val i).length else (a79 val i).length+1)=(a79 val (i+1)).length:=by
  rw[a2h,a69];simp
 have y:wpAny (model prog w) A (setAddHashed S v (knd.hash (val i))) Q E {s with toks:=s.toks+1} :=
  wpAny_setAddHashed_of is sc x (by omega) λh' same z=>q _ h' _ (by unfold Held;rw[<-num,<-funext key];exact z) λc hc=>same.2 c hc
 exact cQ (a8 (knd.pyHash is y))
theorem a2i{I S:Addr}{fp wr:List Addr}{n:Nat}{P:Nat->Value->Prop}{St:Nat->Heap->Prop}(W:Walks prog w A.in1 I fp wr n P St)(apart:S∉fp)(val:Nat->K)(key:∀i v,P i v->knd.is (val i) v=true/\v.scannable=true)(few:n+1<scanBound) :
  ∀(left i:Nat) (s:Shared),i+left=n->St i s.heap->Held knd S val i s.heap->
   (∀h' tk,Held knd S val n h'->(∀c o,c≠S->c∉wr->s.heap.get? c=some o->h'.get? c=some o)->R (.ok (.ret .none)) {s with heap:=h',toks:=tk})->
   codeAny (model prog w) A (.builtin "set.update.loop" ⟨[.ref S,.ref I],[]⟩) R s
 | 0,i,s,hi,st,x,fin=>eO F.entry_set_update_loop (by
   obtain rfl:i=n:=by omega
   simp only[Around.under_plainId cZ];exact a8 (W.done s _ _ st λh' tk k=>aE (fin h' tk (x.keep λo e=>k S o (λz=>apart (W.sub S z)) e) λc o _ hc e=>k c o hc e)))
 | left+1,i,s,hi,st,x,fin=>eO F.entry_set_update_loop (by
   simp only[Around.under_plainId cZ];refine a8 (W.item i s _ _ (by omega) st λv h1 t1 p st1 k1=>?_)
   obtain⟨is,sc⟩:=key i v p;refine a8 (cQ (adp is sc (by omega) (x.keep λo e=>k1 S o (λz=>apart (W.sub S z)) e) λ_ h2 t2 x2 k2=>?_))
   refine aE ⟨plainId_quiet cZ _,a2i W apart val key few left (i+1) _ (by omega) (W.frame _ _ _ st1 λc hc o e=>(k2 c (λz=>apart (z ▸ hc))).trans e) x2 λh3 t3 x3 k3=>?_⟩
   exact fin h3 t3 x3 λc o cS cw e=>k3 c o cS cw ((k2 c cS).trans (k1 c o cw e)))
end
theorem adq:isSubtype (.type "str") (.type "set")=pure false/\isSubtype (.type "str") (.type "frozenset")=pure false:=by
 constructor<;>(rw[isSubtype_type];kernel_rfl)
section
variable{prog:Program}{w:World}{A:Around}{E:Value->Shared->Prop}{s:Shared}
def a1g(x:Str)(i:Nat):Str:=⟨#[x.cps.getD i 0]⟩
abbrev a01(led:Bool):Obj:={cls:=.type "set",dict:=none,data:=.set #[] 0 (.fresh 0 0 led)}
theorem aam{K:Type}[DecidableEq K]{knd:KeyKind prog w K}{S:Addr}{val:Nat->K}{h:Heap}{led:Bool}(e:h.get? S=some (a01 led)):Held knd S val 0 h :=
 (PyProof.Rows.setObjOf_fresh (knd:=knd) led).setOf e (by decide)
theorem adt{x:Str}{t:Tok}{led:Bool}{R:Result->Shared->Prop}(hh:A.handled=none)(few:x.cps.size+1<scanBound)
  (q:∀h' tk,Held (strKind prog w) s.heap.objs.size (a1g x) x.cps.size h'->(∀c o,s.heap.get? c=some o->h'.get? c=some o)->R (.ok (.ret .none)) {s with heap:=h',toks:=tk}) :
  wpAny (model prog w) A.in1 (Builtin.«set.__init__» ⟨[.ref s.heap.objs.size,.str x t],[]⟩)
   (λfin s'=>match fin with|.done f=>R (.ok f) s'|.again c'=>c'.quiet=true/\codeAny (model prog w) A c' R s') (λe s'=>R (.error e) s') {s with heap:=s.heap.push (a01 led)}:=by
 have at0:(s.heap.push (a01 led)).get? s.heap.objs.size=some (a01 led):=ay _ rfl;have ne1:(Value.type "str" == Value.type "dict")=false:=by decide
 obtain⟨no1,no2⟩:=adq;unfold Builtin.«set.__init__»;unfold noKeywords Builtin.Frozenset.updateFrom
 generalize ep:pyIter=walker
 wp_walk
 subst ep;refine wpAny_pyIter_str λo St W st=>a8 (wpAny_runValue ?_);have far:s.heap.objs.size∉[(s.heap.push (a01 led)).objs.size]:=λz=>by
  have:=aL.mp z
  rw[bG]at this;exact absurd this (br (eI _))
 refine a2i (knd:=strKind prog w) (W _ (by simp[hh])) far (a1g x) (λi v ⟨c,u,e,ev⟩=>?_) few x.cps.size 0 _ (by omega) st (aam (a6 _ at0)) λh' tk held k=>?_
 ·subst ev;refine⟨?_,rfl⟩;have ec:a1g x i=⟨#[c]⟩:=by simp[a1g,Array.getD_eq_getD_getElem?,e]
  rw[ec];show Value.isStrOf _ (.str _ u)=true;simp[Value.isStrOf]
 ·refine aE (aE ?_);refine q h' tk held λc o e=>k c o ?_ ?_ (a6 _ (a6 _ e))
  ·exact br (ax e)
  ·intro z
   have:=aL.mp z
   rw[bG]at this;exact absurd (ax e) (by rw[this];exact Nat.not_lt.mpr (Nat.le_succ _))
theorem a6b{x:Str}(hh:A.handled=none)(few:x.cps.size+1<scanBound)
  (q:∀h' tk,Held (strKind prog w) s.heap.objs.size (a1g x) x.cps.size h'->(∀c o,s.heap.get? c=some o->h'.get? c=some o)->Q (.ref s.heap.objs.size) {s with heap:=h',toks:=tk}) :
  wpAny (model prog w) A (call (.type "set") [.str x t]) Q E s:=by
 obtain⟨_,_,order⟩:=cN.mro;have made:=cN.made;have self:=cN.sub;have nt:=cN.notType;have cc:=cN.canCreate;have tc:=F.typeCall_set_1 (.str x t);refine wpAny_call (codeAny_of_tree (aE ⟨Code.quiet_builtin _ (by decide +kernel),eO F.entry_type_call ?_⟩))
 simp only[Around.under_plain (weight_type_call_type "set" [.str x t] []) rfl]
 repeat any_goals first|assumption|wp_step
 refine dY (code_set_new_1 (.str x t) (E:=E) (Q₁:=λobj s1=>obj=.ref s.heap.objs.size/\∃led,s1={s with heap:=s.heap.push (a01 led)}) λled=>⟨rfl,led,rfl⟩) λr s1 hr=>?_
 match r,hr with
 |.error _,hr=>exact hr
 |.ok (.ret _),⟨eo,led,es⟩ =>
  subst eo es;have ty:Shared.TypeIs {s with heap:=s.heap.push (a01 led)} (.ref s.heap.objs.size) "set":=⟨_,ay _ rfl,rfl⟩
  have look:=cN.init.lookup;have bound:=cN.init.bind (.ref s.heap.objs.size)
  repeat any_goals first|assumption|wp_step
  refine dY (codeAny_call_builtin (R:=wants (λr s2=>r=.none/\Q (.ref s.heap.objs.size) s2) E) cN.init.plain F.entry_set_init (check_set_init_1 ty (adt hh few λh' tk x1 k1=>⟨rfl,q h' tk x1 k1⟩))) λr2 s2 hr2=>?_
  match r2,hr2 with
  |.error _,hr2=>exact hr2
  |.ok (.ret _),⟨e2,q2⟩ =>
   subst e2
   repeat any_goals first|assumption|wp_step
  |.ok .next,hr2=>exact hr2.elim
  |.ok .brk,hr2=>exact hr2.elim
  |.ok .cont,hr2=>exact hr2.elim
 |.ok .next,hr=>exact hr.elim
 |.ok .brk,hr=>exact hr.elim
 |.ok .cont,hr=>exact hr.elim
end
def aox(a:Addr)(P:Program)(w:World)(n:Nat):HO:=.ext λh=>∃S,h.SetOf (strKind P w) a S n
section
variable{X:Cx}
theorem a97(hc:X.calm=true):CallR X (.type "set") (λxs H Q=>∃z,xs=[.str z]/\z.length<=1000/\∀l,H l=none->Q (.ref l) (upd H l (aox l X.prog X.w (a1k z.cps.toList).length))):=by
 intro aA s σ H xs us Q I r h
 obtain⟨z,rfl,hz,q⟩:=h;obtain⟨u,rfl,t,rfl⟩:=vals1 r;have hz':z.cps.size<=1000:=hz;refine a6b (I.ok.hd hc) (by unfold scanBound;omega) λh' tk hS kp=>?_
 unfold Held at hS;have en:(a79 (a1g z) z.cps.size).length=(a1k z.cps.toList).length:=by
  have e1:(List.range z.cps.size).map (a1g z)=z.cps.toList.map λc=>(⟨#[c]⟩:Str):=by
   apply List.ext_getElem?
   intro i
   rw[bM,bM]
   by_cases hi:i<z.cps.size
   ·rw[List.getElem?_range hi];simp[a1g,hi]
   ·rw[List.getElem?_eq_none (by simpa using hi),List.getElem?_eq_none (by simpa using hi)];rfl
  unfold a79;rw[e1,aak (λc=>(⟨#[c]⟩:Str)) (λa b e=>by cases e;rfl),aS]
 rw[en]at hS;refine⟨.ref s.heap.objs.size,_,I.laid (t':=tk) (o:=aox s.heap.objs.size X.prog X.w (a1k z.cps.toList).length) kp (ai _) ?_,rfl,q _ (I.hok.fresh (ai _))⟩;refine⟨⟨_,hS⟩,let ⟨o,_,_,_,e,_⟩:=hS; ⟨o,e⟩,λh1 h2 p k=>?_⟩;obtain⟨S,o,es,ep,t,e,r⟩:=p;exact⟨S,o,es,ep,t,k o e,r⟩
theorem call_len_set:CallR X (.builtin "len") (λxs H Q=>∃l n,xs=[.ref l]/\H l=some (aox l X.prog X.w n)/\Q (.int (n:Nat)) H):=by
 intro aA s σ H xs us Q I r h
 obtain⟨l,n,rfl,hl,q⟩:=h;obtain⟨u,rfl,rx⟩:=vals1 r;cases rx
 obtain⟨⟨S,o,es,ep,t,e,hex,hd,_,_,hb,hf,hn⟩,_⟩:=I.hok l _ hl;refine PySem.call_len_set e hex hd hf (by unfold scanBound at hb;omega) ⟨.int (n:Nat),H,I.tok _,⟨_,by rw[hn]⟩,q⟩
end
end L2
namespace L2
theorem af6:bootBuiltins "len" = some (.builtin "len"):=PySem.boot_len
theorem dw:bootBuiltins "isinstance" = some (.builtin "isinstance"):=by first|exact PySem.boot_isinstance|exact PyProof.Rows.boot_isinstance
theorem a2j:bootBuiltins "str" = some (.type "str"):=by first|exact PySem.boot_str|exact PyProof.Rows.boot_str
theorem akj:bootBuiltins "ord" = some (.builtin "ord"):=by first|exact PySem.boot_ord|exact PyProof.Rows.boot_ord
theorem akk:bootBuiltins "set" = some (.type "set"):=by first|exact PySem.boot_set|exact PyProof.Rows.boot_set
theorem af7:bootBuiltins "all" = some (.builtin "all"):=by first|exact PySem.boot_all|exact PyProof.Rows.boot_all
theorem af8:bootBuiltins "abs" = some (.builtin "abs"):=by first|exact PySem.boot_abs|exact PyProof.Rows.boot_abs
theorem a6c:bootBuiltins "int" = some (.type "int"):=by first|exact PySem.boot_int|exact PyProof.Rows.boot_int
theorem ahc:bootBuiltins "list" = some (.type "list"):=by first|exact PySem.boot_list|exact PyProof.Rows.boot_list
theorem a0b:bootBuiltins "tuple" = some (.type "tuple"):=by first|exact PySem.boot_tuple|exact PyProof.Rows.boot_tuple
structure Dn (P:Program) (w:World) (K:Fg) (mg:Str->Option Value) (base:Heap) (k:Nat) (x:Str) (ps:List Str) (sp:Sp) (f:Addr) (fd:FuncData):Prop where
 ok:FnOk P w K mg base CX0 k f fd ps sp
 m:mg x=some (.ref f)
 kp:PySem.W.keepIn K (.ref f)=true
 b:Binds K fd ps []
theorem aoy:sizeLine=16777216:=eS
theorem ahd(h:n<=16777216):n<=sizeLine:=by rw[eS];exact h
theorem CSc.noFree{aB:Scope}(kind:aB.kind=.function)(h:∀y∈aB.names,y.2≠.cell/\y.2≠.free)(names:∀y∈aB.names,y.2=.local->aB.names.lookup y.1=some .local)
  (ht:∀y∈ts,aB.names.lookup y=some .local):CSc X aB [] ts [] []:=by
 have e:(relabel aB X.env).names=aB.names:=by
  show aB.names.map _=_;refine map_eq_self λy hy=>?_;obtain⟨n,k⟩:=y;have:(k == NameKind.free)=false:=by simpa using (h _ hy).2
  simp[this]
 refine⟨closureFor_none λy hy=>(h y hy).2,kind,λ_=>a4k λy hy=>(h y hy).1,λ_=>a78 λy hy=>(h y hy).1,names,(λ_ _ z=>nomatch z),λy z=>?_,rfl,(λ_ _ z=>by simp at z)⟩
 rw[e]at z
 rcases z with z|z
 ·exact absurd rfl (h _ (bA z)).1
 ·exact absurd rfl (h _ (bA z)).2
theorem aoz(x y:Str):(x++y).cps.toList=x.cps.toList++y.cps.toList:=by
 show(x.cps++y.cps).toList=_;simp
theorem aan{α:Type}(xs:List α)(k:Nat):a3f xs none (some (k:Int))=xs.take k:=by
 unfold a3f;rw[HT.a7y,HT.a4g,List.drop_zero,Nat.sub_zero]
 by_cases h:k<=xs.length
 ·rw[dR h]
 ·rw[dF (by omega),bC (ai _),bC (by omega)]
theorem aao{α:Type}(xs:List α)(k:Nat):a3f xs (some (k:Int)) none=xs.drop k:=by
 unfold a3f;rw[HT.a7y,HT.a4g]
 by_cases h:k<=xs.length
 ·rw[dR h,bC (by rw[bF];omega)]
 ·rw[dF (by omega),bD (ai _),bD (by omega),eV]
theorem ahe{α:Type}(xs:List α)(j k:Nat):a3f xs (some (j:Int)) (some (k:Int))=(xs.drop j).take (k-j):=by
 unfold a3f;rw[HT.a4g,HT.a4g]
 by_cases h:j<=xs.length
 ·rw[dR h]
  by_cases h2:k<=xs.length
  ·rw[dR h2]
  ·rw[dF (by omega),bC (by rw[bF];omega),bC (by rw[bF];omega)]
 ·rw[dF (show xs.length<=j by omega),bD (ai _),bD (by omega),eV,eV]
end L2
namespace L2
open PyProof.Rows
section
variable{X:Cx}
theorem ahf:OpR X (compareOp .In) (λx y H Q=>∃c T,x=.str ⟨#[c]⟩/\y=.str T/\Q (.bl (decide (c∈T.cps.toList))) H):=by
 intro aA s σ H x y v u Q I rx ry h
 obtain⟨c,T,rfl,rfl,q⟩:=h;exact a9y aA s σ H _ _ v u Q I rx ry ⟨_,_,rfl,rfl,by rw[StrLaws.found_one];exact q⟩
theorem a3q:OpR X (compareOp .NotIn) (λx y H Q=>∃c T,x=.str ⟨#[c]⟩/\y=.str T/\Q (.bl (!decide (c∈T.cps.toList))) H):=by
 intro aA s σ H x y v u Q I rx ry h
 obtain⟨c,T,rfl,rfl,q⟩:=h;exact a5p aA s σ H _ _ v u Q I rx ry ⟨_,_,rfl,rfl,by rw[StrLaws.found_one];exact q⟩
theorem ahg{zs:List Str}:∀{us:List Value},Vals (zs.map V.str) us->StrsAre us zs:=by
 induction zs with
 |nil=>intro us r;rw[cW]at r;cases r;exact .nil
 |cons z zs ih =>
  intro us r
  rw[aT]at r
  cases r with
  |cons r1 r2 =>
   obtain⟨t,e⟩:=r1;subst e;exact .cons z t (ih r2)
theorem a0t:MtR X "str.join" (λx xs H Q=>∃sep p zs,x=.str sep/\xs=[.ref p]/\SqL X.K H p (zs.map V.str)/\(zs.map (·.length)).sum+zs.length*sep.length<=16777216/\Q (.str (Txt.join sep zs)) H):=by
 intro aA s σ H x xs v us Q I rx rs h
 obtain⟨sep,p,zs,rfl,rfl,hp,hz,q⟩:=h;obtain⟨t,rfl⟩:=rx;obtain⟨u,rfl,ru⟩:=vals1 rs;cases ru
 obtain⟨its,r,pl,_⟩:=I.list hp;exact join_list pl.isList (by simpa using ahg r) hz λt' k=>⟨.str _,H,I.tok _,⟨_,rfl⟩,q⟩
end
theorem CSc.of{X:Cx}{ts fr:List Str}{ix:List Nat}(clos:closureFor aB X.env=pure cl)(kind:aB.kind=.function)
  (nocell:(aB.names.all λp=>p.2 != .cell)=true) (names:(aB.names.all λp=>p.2 != .local || aB.names.lookup p.1 == some .local)=true) (sub:∀p∈cl,X.env.cells.lookup p.1=some p.2)
  (has:((relabel aB X.env).names.all λp => !(p.2 == .cell || p.2 == .free) || (cl.lookup p.1).isSome)=true) (nofn:(ts.all λy=>(relabel aB X.env).names.lookup y == some .local)=true)
  (len:ix.length=fr.length) (vis:((fr.zip ix).all λp=>X.N[p.2]? == some p.1 && (X.env.kindOf p.1 == some .cell || X.env.kindOf p.1 == some .free) && ((relabel aB X.env).names.lookup p.1 == some .cell || (relabel aB X.env).names.lookup p.1 == some .free))=true) :
  CSc X aB cl ts fr ix:=by
 have nc:∀y∈aB.names,y.2≠.cell:=λy hy=>by
  have:=bJ.mp nocell y hy
  simpa using this
 refine⟨clos,kind,λ_=>a4k nc,λ_=>a78 nc,λy hy e=>?_,λy c e=>sub _ (bA e),λy z=>.inr ?_,len,λj y e=>⟨nofun,?_⟩⟩
 ·have:=bJ.mp names y hy
  rw[e]at this;simpa using this
 ·have key:∀k,(relabel aB X.env).names.lookup y=some k->(k == .cell || k == .free)=true->∃c,cl.lookup y=some c:=λk e hk=>by
   have:=bJ.mp has _ (bA e)
   rw[hk]at this;exact eA.mp (by simpa using this)
  rcases z with z|z
  ·exact key _ z rfl
  ·exact key _ z rfl
 ·obtain⟨hj,_⟩:=a7.mp e;have hj2:j<ix.length:=by omega
  have hm:(y,ix[j])∈fr.zip ix:=by
   rw[List.mem_iff_getElem?];exact⟨j,by rw[eh];exact⟨e,ae hj2⟩⟩
  have:=bJ.mp vis _ hm
  simp only[bI,Bool.or_eq_true,eX]at this;exact⟨ix[j],ae hj2,this.1.1,this.1.2,this.2⟩
def tSM(r:V->List V->Hp->VK->Prop)(to:TE)(t:TA):TE:=λσ H Q=>to σ H λx H1=>(∃z,x=.str z)/\t σ H1 λxs H2=>r x xs H2 Q
theorem ap0{X:Cx}{o e:Expr}{es:List Expr}{to:TE}{t:TA}{name:Str}{apos cpos:Pos}{id:String}{r:V->List V->Hp->VK->Prop}(slot:Slot "str" name id)(hty:typeOf (.builtin id)=pure (.type "method_descriptor"))(hm:MtR X id r)(ho:PE X o to)(ha:PA X (e::es) t)
  (hbase:attributeBase o name X.env (eval o X.env)=eval o X.env:=by rfl)
  (hfew:((backTo cpos (starEach (e::es) X.env)).all (λx => !x.1) && (backToKw cpos (keywordEach [] X.env)).all (λx=>x.1.isSome)
   && decide ((e::es).length+([]:List Keyword).length+(if ([]:List Keyword).isEmpty then 0 else 1)<30))=true:=by rfl)
  (hline:(apos.endLine == cpos.line)=true:=by rfl) (hs:starEach (e::es) X.env=(false,eval e X.env)::starEach es X.env:=by rfl) (hplain:(backTo cpos (starEach es X.env)).any (·.1)=false:=by rfl) :
  PE X (.Call (.Attribute o name apos) (e::es) [] cpos) (tSM r to t):=by
 intro aA s σ H Q I h
 refine wpAny_Call_method_late hbase hfew hline rfl (thn (ho aA s σ H _ I h) λv s1 ⟨x,H1,I1,r1,⟨z,hz⟩,q1⟩=>?_);subst hz;obtain⟨h1,h2⟩:=af2 (T := "str") I1 r1 rfl;refine⟨"str",id,PySem.F.plainAttrs_str,slot,hty,h1,h2,?_⟩;have hA:=ha cpos aA s1 σ H1 _ I1 q1;rw[hs]at hA ⊢;refine Calls.callWith_builtin (by show(false || (backTo cpos (starEach es X.env)).any (·.1))=false;rw[hplain]<;>rfl) (Calls.evalArgs_plain ?_)
 exact thn hA λus s2 ⟨vs,H2,I2,r2,q2⟩=>hm aA s2 σ H2 _ vs v us Q I2 r1 r2 q2
end L2
namespace MI
open L2
inductive D where
 |non|bl (b:Bool)|int (i:Int)|str (x:Str)|ty (n:String)|tup (xs:List D)|rol (xs:List D)|ref (i:Nat)|scr (xs:List D)|rod (ks:List Key) (xs:List D)|rdT (ks:List (List Key)) (xs:List D)|exc (c:Str)|ins (c:Str) (ks:List Str) (xs:List D)
inductive O where
 |lst (xs:List D)|dK (kvs:List (Key×D))|dT (kvs:List (List Key×D))|ins (c:Str) (fs:List (Str×D))|dN (kvs:List ((Int×List Int)×D))
abbrev Hd:=List O
abbrev Sd:=List (Option D)
inductive R (α:Type) where
 |ok (a:α) (h:Hd)|ex (c:Str) (h:Hd)|no
def R.bind{α β:Type}:R α->(α->Hd->R β)->R β
 |.ok a h,k=>k a h
 |.ex c h,_=>.ex c h
 |.no,_=>.no
inductive Fl where
 |nx (σ:Sd) (h:Hd)|rt (d:D) (h:Hd)|bk (σ:Sd) (h:Hd)|ct (σ:Sd) (h:Hd)|ex (c:Str) (h:Hd)|no
def R.fl{α:Type}:R α->(α->Hd->Fl)->Fl
 |.ok a h,k=>k a h
 |.ex c h,_=>.ex c h
 |.no,_=>.no
abbrev SE:=Sd->Hd->R D
abbrev ST:=Sd->Hd->R Bool
abbrev SA:=Sd->Hd->R (List D)
abbrev SS:=Sd->Hd->Fl
def SqF(K:Fg)(H:Hp)(a:Addr)(vs:List V):Prop:=(∃o,H a=some (.frz o (.lst vs)))\/SqL K (λ_=>none) a vs
theorem SqF.l(h:SqF K H a vs):SqL K H a vs:=by
 rcases h with⟨o,h⟩|h
 ·exact .inl (.inr ⟨o,h⟩)
 ·rcases h with(h|⟨o,h⟩)|h
  ·cases h
  ·cases h
  ·exact .inr h
def SqZ(H:Hp)(a:Addr)(vs:List V):Prop:=∃o,H a=some (.frz o (.lst vs))
theorem SqZ.l(h:SqZ H a vs):SqL K H a vs:=let ⟨o,e⟩:=h; .inl (.inr ⟨o,e⟩)
def exO(a:Addr):HO:=.ext λh=>∃o,h.get? a=some o
mutual
inductive Rep (K:Fg) (ι:List Addr) (H:Hp):V->D->Prop
 |non:Rep K ι H .non .non
 |bl (b:Bool):Rep K ι H (.bl b) (.bl b)
 |int (i:Int):Rep K ι H (.int i) (.int i)
 |str (x:Str):Rep K ι H (.str x) (.str x)
 |ty (n:String):Rep K ι H (.ty n) (.ty n)
 |tup {a:Addr} {vs:List V} {xs:List D} (h:H a=some (.tup vs)) (r:Reps K ι H vs xs):Rep K ι H (.ref a) (.tup xs)
 |rol {a:Addr} {vs:List V} {xs:List D} (h:SqZ H a vs) (r:Reps K ι H vs xs):Rep K ι H (.ref a) (.rol xs)
 |scr {a:Addr} {vs:List V} {xs:List D} (h:SqF K H a vs) (r:Reps K ι H vs xs):Rep K ι H (.ref a) (.scr xs)
 |ref {a:Addr} {i:Nat} (h:ι[i]? = some a):Rep K ι H (.ref a) (.ref i)
 |rod {a:Addr} {o:Obj} {us:List (Key×V)} {ks:List Key} {xs:List D} (h:H a=some (.frz o (.dK us))) (e:us.map (·.1)=ks) (r:Reps K ι H (us.map (·.2)) xs):Rep K ι H (.ref a) (.rod ks xs)
 |rdT {a:Addr} {o:Obj} {us:List (List Key×V)} {ks:List (List Key)} {xs:List D} (h:H a=some (.frz o (.dT us))) (e:us.map (·.1)=ks) (r:Reps K ι H (us.map (·.2)) xs):Rep K ι H (.ref a) (.rdT ks xs)
 |exc {a C:Addr} {o:Obj} {c:Str} (h:H a=some (.frz o (exO a))) (hc:o.cls=.ref C) (hn:PySem.W.nsIn K mainGlobals c=some (some (.ref C))):Rep K ι H (.ref a) (.exc c)
 |ins {a C dx:Addr} {o:Obj} {c:Str} {us:List (Str×V)} {ks:List Str} {xs:List D} (h:H a=some (.frz o (.ins C dx us))) (hn:PySem.W.nsIn K mainGlobals c=some (some (.ref C))) (e:us.map (·.1)=ks) (r:Reps K ι H (us.map (·.2)) xs):Rep K ι H (.ref a) (.ins c ks xs)
inductive Reps (K:Fg) (ι:List Addr) (H:Hp):List V->List D->Prop
 |nil:Reps K ι H [] []
 |cons {v:V} {d:D} {vs:List V} {ds:List D} (r:Rep K ι H v d) (rs:Reps K ι H vs ds):Reps K ι H (v::vs) (d::ds)
end
structure Gw (ι:List Addr) (H:Hp) (ι':List Addr) (H':Hp):Prop where
 pre:∃m,ι'=ι++m
 tup:∀a vs,H a=some (.tup vs)->H' a=some (.tup vs)
 frz:∀a o u,H a=some (.frz o u)->H' a=some (.frz o u)
structure Gr (ι:List Addr) (H:Hp) (ι':List Addr) (H':Hp):Prop where
 pre:∃m,ι'=ι++m/\∀a∈m,H a=none
 tup:∀a vs,H a=some (.tup vs)->H' a=some (.tup vs)
 frz:∀a o u,H a=some (.frz o u)->H' a=some (.frz o u)
 oth:∀a u,H a=some u->a∉ι->H' a=some u
 kp:∀a u,H a=some u->∃u',H' a=some u'
theorem Gr.w(g:Gr ι H ι' H'):Gw ι H ι' H':=⟨let ⟨m,e,_⟩:=g.pre; ⟨m,e⟩,g.tup,g.frz⟩
theorem Gr.refl(ι:List Addr)(H:Hp):Gr ι H ι H:=⟨⟨[],by simp,by simp⟩,λ_ _ h=>h,λ_ _ _ h=>h,λ_ _ h _=>h,λ_ u h=>⟨u,h⟩⟩
theorem Gr.trans(a:Gr ι H ι1 H1)(b:Gr ι1 H1 ι2 H2):Gr ι H ι2 H2:=by
 obtain⟨m,rfl,hm⟩:=a.pre;obtain⟨n,rfl,hn⟩:=b.pre;refine⟨⟨m++n,by simp,λx hx=>?_⟩,λx vs h=>b.tup x vs (a.tup x vs h),λx o u h=>b.frz x o u (a.frz x o u h),λx u h hx=>?_,λx u h=>?_⟩
 ·rcases bU.mp hx with hx|hx
  ·exact hm x hx
  ·cases e:H x with
   |none=>rfl
   |some u =>
    obtain⟨u',e'⟩:=a.kp x u e;rw[hn x hx]at e';cases e'
 ·refine b.oth x u (a.oth x u h hx) λz=>?_
  rcases bU.mp z with z|z
  ·exact hx z
  ·rw[hm x z]at h;cases h
 ·obtain⟨u',e⟩:=a.kp x u h;exact b.kp x u' e
theorem Gw.at(g:Gw ι H ι' H'){i:Nat}(h:ι[i]? = some a):ι'[i]? = some a:=by
 obtain⟨m,rfl⟩:=g.pre;rw[aI (a7.mp h).1];exact h
theorem Gr.at(g:Gr ι H ι' H'){i:Nat}(h:ι[i]? = some a):ι'[i]? = some a:=g.w.at h
theorem SqF.monoW(g:Gw ι H ι' H')(h:SqF K H a vs):SqF K H' a vs:=by
 rcases h with⟨o,h⟩|h
 ·exact .inl ⟨o,g.frz _ _ _ h⟩
 ·exact .inr h
theorem SqZ.monoW(g:Gw ι H ι' H')(h:SqZ H a vs):SqZ H' a vs:=let ⟨o,e⟩:=h; ⟨o,g.frz _ _ _ e⟩
theorem SqZ.mono(g:Gr ι H ι' H')(h:SqZ H a vs):SqZ H' a vs:=h.monoW g.w
mutual
theorem Rep.monoW(g:Gw ι H ι' H'):∀{v:V} {d:D},Rep K ι H v d->Rep K ι' H' v d
 |_,_,.non=>.non
 |_,_,.bl b=>.bl b
 |_,_,.int i=>.int i
 |_,_,.str x=>.str x
 |_,_,.ty n=>.ty n
 |_,_,.tup h r=>.tup (g.tup _ _ h) (Reps.monoW g r)
 |_,_,.rol h r=>.rol (h.monoW g) (Reps.monoW g r)
 |_,_,.scr h r=>.scr (h.monoW g) (Reps.monoW g r)
 |_,_,.ref h=>.ref (g.at h)
 |_,_,.rod h e r=>.rod (g.frz _ _ _ h) e (Reps.monoW g r)
 |_,_,.rdT h e r=>.rdT (g.frz _ _ _ h) e (Reps.monoW g r)
 |_,_,.exc h hc hn=>.exc (g.frz _ _ _ h) hc hn
 |_,_,.ins h hn e r=>.ins (g.frz _ _ _ h) hn e (Reps.monoW g r)
theorem Reps.monoW(g:Gw ι H ι' H'):∀{vs:List V} {ds:List D},Reps K ι H vs ds->Reps K ι' H' vs ds
 |_,_,.nil=>.nil
 |_,_,.cons r rs=>.cons (Rep.monoW g r) (Reps.monoW g rs)
end
theorem Rep.mono(g:Gr ι H ι' H')(r:Rep K ι H v d):Rep K ι' H' v d:=r.monoW g.w
theorem Reps.mono(g:Gr ι H ι' H')(r:Reps K ι H vs ds):Reps K ι' H' vs ds:=r.monoW g.w
section
variable{K:Fg}{ι:List Addr}{H:Hp}
theorem Reps.len:Reps K ι H vs ds->vs.length=ds.length
 |.nil=>rfl
 |.cons _ rs=>by rw[af,af,rs.len]
theorem Reps.get:∀{vs:List V} {ds:List D} {i:Nat} {d:D},Reps K ι H vs ds->ds[i]? = some d->∃v,vs[i]? = some v/\Rep K ι H v d
 |_,_,_,_,.nil,e=>by simp at e
 |_,_,0,_,.cons r _,e=>by simp at e;subst e;exact⟨_,rfl,r⟩
 |_,_,i+1,d,.cons _ rs,e=>by
  obtain⟨u,h1,h2⟩:=Reps.get (i:=i) (d:=d) rs (by simpa using e)
  exact⟨u,by simpa using h1,h2⟩
theorem Reps.app:∀{vs us:List V} {ds es:List D},Reps K ι H vs ds->Reps K ι H us es->Reps K ι H (vs++us) (ds++es)
 |_,_,_,_,.nil,s=>s
 |_,_,_,_,.cons r rs,s=>.cons r (Reps.app rs s)
theorem Reps.set(q:Rep K ι H v d):∀{vs:List V} {ds:List D} (i:Nat),Reps K ι H vs ds->Reps K ι H (vs.set i v) (ds.set i d)
 |_,_,_,.nil=>.nil
 |_,_,0,.cons _ rs=>.cons q rs
 |_,_,i+1,.cons r rs=>.cons r (Reps.set q i rs)
theorem Reps.take:∀{vs:List V} {ds:List D} (n:Nat),Reps K ι H vs ds->Reps K ι H (vs.take n) (ds.take n)
 |_,_,0,_=>.nil
 |_,_,_+1,.nil=>.nil
 |_,_,n+1,.cons r rs=>.cons r (Reps.take n rs)
theorem Reps.drop:∀{vs:List V} {ds:List D} (n:Nat),Reps K ι H vs ds->Reps K ι H (vs.drop n) (ds.drop n)
 |_,_,0,r=>r
 |_,_,_+1,.nil=>.nil
 |_,_,n+1,.cons _ rs=>Reps.drop n rs
theorem Reps.snoc(r:Reps K ι H vs ds)(q:Rep K ι H v d):Reps K ι H (vs++[v]) (ds++[d]):=r.app (.cons q .nil)
theorem Reps.flat:∀{vs:List V} {ds:List D} (k:Nat),Reps K ι H vs ds->Reps K ι H (List.replicate k vs).flatten (List.replicate k ds).flatten
 |_,_,0,_=>.nil
 |vs,ds,k+1,r=>by
  rw[bN,bN,b9,b9];exact r.app (Reps.flat k r)
end
def KRep{κ:Type}(K:Fg)(ι:List Addr)(H:Hp)(us:List (κ×V))(kvs:List (κ×D)):Prop:=us.map (·.1)=kvs.map (·.1)/\Reps K ι H (us.map (·.2)) (kvs.map (·.2))
def ORep(K:Fg)(ι:List Addr)(H:Hp)(a:Addr):O->Prop
 |.lst xs=>∃vs,H a=some (.lst vs)/\Reps K ι H vs xs
 |.dK kvs=>∃us,H a=some (.dK us)/\KRep K ι H us kvs
 |.dT kvs=>∃us,H a=some (.dT us)/\KRep K ι H us kvs
 |.ins c fs=>∃C dx us,H a=some (.ins C dx us)/\PySem.W.nsIn K mainGlobals c=some (some (.ref C))/\KRep K ι H us fs
 |.dN kvs=>∃ent,NDE H a ent/\KRep K ι H (aou ent) kvs
structure HRep (K:Fg) (ι:List Addr) (H:Hp) (h:Hd):Prop where
 nd:ι.Nodup
 len:ι.length=h.length
 obj:∀(i:Nat) (a:Addr) (o:O),ι[i]? = some a->h[i]? = some o->ORep K ι H a o
section
variable{K:Fg}{ι:List Addr}{H:Hp}{h:Hd}
theorem ORep.some(r:ORep K ι H a o):∃u,H a=some u/\(∀vs,u≠.tup vs)/\(∀o' u',u≠.frz o' u'):=by
 cases o with
 |lst xs=>obtain⟨vs,e,_⟩:=r;exact⟨_,e,λ_ z=>(by cases z),λ_ _ z=>(by cases z)⟩
 |dK kvs=>obtain⟨us,e,_⟩:=r;exact⟨_,e,λ_ z=>(by cases z),λ_ _ z=>(by cases z)⟩
 |dT kvs=>obtain⟨us,e,_⟩:=r;exact⟨_,e,λ_ z=>(by cases z),λ_ _ z=>(by cases z)⟩
 |ins c fs=>obtain⟨C,dx,us,e,_⟩:=r;exact⟨_,e,λ_ z=>(by cases z),λ_ _ z=>(by cases z)⟩
 |dN kvs =>
  obtain⟨ent,e,_⟩:=r
  rcases e with⟨e,_⟩|⟨e,_⟩
  ·exact⟨_,e.has,λ_ z=>(by cases z),λ_ _ z=>(by cases z)⟩
  ·exact⟨_,e,λ_ z=>(by cases z),λ_ _ z=>(by cases z)⟩
theorem HRep.at(r:HRep K ι H h){i:Nat}(e:ι[i]? = some a):∃o,h[i]? = some o/\ORep K ι H a o:=by
 have hi:i<h.length:=by rw[<-r.len];exact(a7.mp e).1
 exact⟨h[i],ae hi,r.obj i a _ e (ae hi)⟩
theorem HRep.addr(r:HRep K ι H h){i:Nat}(e:h[i]? = some o):∃a,ι[i]? = some a/\ORep K ι H a o:=by
 have hi:i<ι.length:=by rw[r.len];exact(a7.mp e).1
 exact⟨ι[i],ae hi,r.obj i _ o (ae hi) e⟩
theorem HRep.notin(r:HRep K ι H h)(e:H p=none):p∉ι:=λz=>by
 obtain⟨i,hi⟩:=bB z;obtain⟨o,_,q⟩:=r.at hi;obtain⟨u,q,_⟩:=q.some;rw[e]at q;cases q
theorem ORep.monoW(g:Gw ι H ι' H')(e:H' a=H a)(r:ORep K ι H a o):ORep K ι' H' a o:=by
 cases o with
 |lst xs=>obtain⟨vs,h1,h2⟩:=r;exact⟨vs,by rw[e];exact h1,h2.monoW g⟩
 |dK kvs=>obtain⟨us,h1,h2,h3⟩:=r;exact⟨us,by rw[e];exact h1,h2,h3.monoW g⟩
 |dT kvs=>obtain⟨us,h1,h2,h3⟩:=r;exact⟨us,by rw[e];exact h1,h2,h3.monoW g⟩
 |ins c fs=>obtain⟨C,dx,us,h1,hn,h2,h3⟩:=r;exact⟨C,dx,us,by rw[e];exact h1,hn,h2,h3.monoW g⟩
 |dN kvs=>obtain⟨ent,h1,h2,h3⟩:=r;exact⟨ent,h1.keeps e g.tup,h2,h3.monoW g⟩
theorem ORep.mono(g:Gr ι H ι' H')(e:H' a=H a)(r:ORep K ι H a o):ORep K ι' H' a o:=r.monoW g.w e
theorem yh(e:H p=none)(o:HO):Gr ι H ι (upd H p o) :=
 ⟨⟨[],by simp,by simp⟩,λa vs h=>by rw[j6 (ie h e)];exact h,λa o u h=>by rw[j6 (ie h e)];exact h,λa u h _=>by rw[j6 (ie h e)];exact h,λa u h=>⟨u,by rw[j6 (ie h e)];exact h⟩⟩
theorem HRep.aside(r:HRep K ι H h)(e:H p=none)(o:HO):HRep K ι (upd H p o) h:=by
 refine⟨r.nd,r.len,λi a o' e1 e2=>?_⟩;have q:=r.obj i a o' e1 e2;obtain⟨u,hu,_⟩:=q.some;exact q.mono (yh e o) (j6 (ie hu e))
theorem aap(e:H p=none)(o:HO):Gr ι H (ι++[p]) (upd H p o) :=
 ⟨⟨[p],rfl,by simpa using e⟩,(yh (ι:=ι) e o).tup,(yh (ι:=ι) e o).frz,(yh (ι:=ι) e o).oth,(yh (ι:=ι) e o).kp⟩
theorem HRep.add(r:HRep K ι H h)(e:H p=none)(q:ORep K (ι++[p]) (upd H p o) p ob):HRep K (ι++[p]) (upd H p o) (h++[ob]):=by
 refine⟨?_,by simp[r.len],λi a o' e1 e2=>?_⟩
 ·rw[bq];exact⟨r.nd,by simp,λa ha b hb z=>r.notin e (by rw[aL.mp hb]at z;rw[<-z];exact ha)⟩
 ·by_cases hi:i<ι.length
  ·rw[aI hi]at e1;rw[aI (by rw[<-r.len];exact hi)]at e2
   have q:=r.obj i a o' e1 e2;obtain⟨u,hu,_⟩:=q.some;exact q.mono (aap e o) (j6 (ie hu e))
  ·have hi2:i<(ι++[p]).length:=(a7.mp e1).1;have:i=ι.length:=by simp at hi2;omega
   subst this;rw[ar (ai _)]at e1;rw[r.len,ar (ai _)]at e2;simp at e1 e2;subst e1 e2;exact q
theorem a3r{i:Nat}(r:HRep K ι H h)(e:ι[i]? = some a)(o:HO):Gr ι H ι (upd H a o):=by
 obtain⟨_,_,q⟩:=r.at e;obtain⟨u,hu,n1,n2⟩:=q.some;refine⟨⟨[],by simp,by simp⟩,λb vs hb=>?_,λb o' u' hb=>?_,λb u' hb hn=>?_,λb u' hb=>?_⟩
 ·rw[j6 (λz=>by subst z;rw[hu]at hb;exact n1 _ (b6 hb))];exact hb
 ·rw[j6 (λz=>by subst z;rw[hu]at hb;exact n2 _ _ (b6 hb))];exact hb
 ·rw[j6 (λz=>hn (by subst z;exact aZ e))];exact hb
 ·by_cases z:b=a
  ·subst z;exact⟨o,qp⟩
  ·exact⟨u',by rw[j6 z];exact hb⟩
theorem HRep.put(r:HRep K ι H h){i:Nat}(e:ι[i]? = some a)(q:ORep K ι (upd H a o) a ob):HRep K ι (upd H a o) (h.set i ob):=by
 refine⟨r.nd,by rw[eM];exact r.len,λj b o' e1 e2=>?_⟩
 by_cases hj:i=j
 ·subst hj;rw[e]at e1;cases e1
  have hi:i<h.length:=by rw[<-r.len];exact(a7.mp e).1
  rw[bK hi]at e2;cases e2
  exact q
 ·rw[cy hj]at e2;have hne:b≠a:=λz=>by
   subst z;obtain⟨h1,g1⟩:=a7.mp e;obtain⟨h2,g2⟩:=a7.mp e1;have np:=cq.mp r.nd
   rcases Nat.lt_or_gt_of_ne hj with l|l
   ·exact np i j h1 h2 l (g1.trans g2.symm)
   ·exact np j i h2 h1 l (g2.trans g1.symm)
  exact(r.obj j b o' e1 e2).mono (a3r r e o) (j6 hne)
end
structure SRep (K:Fg) (ι:List Addr) (H:Hp) (σ:St) (τ:Sd):Prop where
 len:σ.length=τ.length
 val:∀(i:Nat) (d:D),τ[i]? = some (some d)->∃v,σ[i]? = some (some v)/\Rep K ι H v d
theorem SRep.mono(g:Gr ι H ι' H')(s:SRep K ι H σ τ):SRep K ι' H' σ τ :=
 ⟨s.len,λi d e=>let ⟨v,h1,h2⟩:=s.val i d e; ⟨v,h1,h2.mono g⟩⟩
theorem SRep.set(s:SRep K ι H σ τ)(r:Rep K ι H v d)(i:Nat):SRep K ι H (σ.set i (some v)) (τ.set i (some d)):=by
 refine⟨by simp[s.len],λj d' e=>?_⟩
 by_cases hj:i=j
 ·subst hj;have hi:i<τ.length:=by
   have:=(a7.mp e).1
   simpa using this
  rw[bK hi]at e;cases e
  exact⟨v,by rw[bK (by rw[s.len];exact hi)],r⟩
 ·rw[cy hj]at e ⊢;exact s.val j d' e
abbrev XD:=Str->List Addr->Hp->Hd->Prop
def out{α β:Type}(K:Fg)(E:XD)(Rp:List Addr->Hp->β->α->Prop)(ι:List Addr)(H:Hp)(r:R α)(Q:β->Hp->Prop):Prop :=
 match r with
 |.ok a h=>∀ι' H' b,Gr ι H ι' H'->Rp ι' H' b a->HRep K ι' H' h->Q b H'
 |.ex c h=>∀ι' H',Gr ι H ι' H'->HRep K ι' H' h->E c ι' H' h
 |.no=>False
theorem a80{α β:Type}{K:Fg}{E:XD}{Rp:List Addr->Hp->β->α->Prop}{ι ι1:List Addr}{H H1:Hp}{r:R α}{Q:β->Hp->Prop}(o:out K E Rp ι H r Q)(g:Gr ι H ι1 H1):out K E Rp ι1 H1 r Q:=by
 cases r with
 |ok a h=>exact λι' H' b g'=>o ι' H' b (g.trans g')
 |ex c h=>exact λι' H' g'=>o ι' H' (g.trans g')
 |no=>exact o
theorem bz{α β γ δ:Type}{K:Fg}{E:XD}{Rp:List Addr->Hp->β->α->Prop}{Sp:List Addr->Hp->δ->γ->Prop}{ι:List Addr}{H:Hp}{r:R α}{k:α->Hd->R γ}{Q:δ->Hp->Prop}{P:β->Hp->Prop}
  (o:out K E Sp ι H (r.bind k) Q) (hP:∀a h ι1 H1 b,Gr ι H ι1 H1->Rp ι1 H1 b a->HRep K ι1 H1 h->out K E Sp ι1 H1 (k a h) Q->P b H1):out K E Rp ι H r P:=by
 cases r with
 |ok a h=>exact λι' H' b g r' hr=>hP a h ι' H' b g r' hr (a80 o g)
 |ex c h=>exact o
 |no=>exact o
abbrev yj(K:Fg):List Addr->Hp->V->D->Prop:=λι H v d=>Rep K ι H v d
abbrev arz(K:Fg):List Addr->Hp->List V->List D->Prop:=λι H v d=>Reps K ι H v d
abbrev ant:List Addr->Hp->Bool->Bool->Prop:=λ_ _ a b=>a=b
abbrev as3:List Addr->Hp->Option Int->Option Int->Prop:=λ_ _ a b=>a=b
def acs(K:Fg)(E:XD)(ι:List Addr)(H:Hp)(r:Fl)(N:Ends):Prop :=
 match r with
 |.nx τ h=>∀ι' H' σ,Gr ι H ι' H'->SRep K ι' H' σ τ->HRep K ι' H' h->N.nx σ H'
 |.bk τ h=>∀ι' H' σ,Gr ι H ι' H'->SRep K ι' H' σ τ->HRep K ι' H' h->N.bk σ H'
 |.ct τ h=>∀ι' H' σ,Gr ι H ι' H'->SRep K ι' H' σ τ->HRep K ι' H' h->N.ct σ H'
 |.rt d h=>∀ι' H' v,Gr ι H ι' H'->Rep K ι' H' v d->HRep K ι' H' h->N.rt v H'
 |.ex c h=>∀ι' H',Gr ι H ι' H'->HRep K ι' H' h->E c ι' H' h
 |.no=>False
theorem nu(o:acs K E ι H r N)(g:Gr ι H ι1 H1):acs K E ι1 H1 r N:=by
 cases r with
 |nx τ h=>exact λι' H' b g'=>o ι' H' b (g.trans g')
 |bk τ h=>exact λι' H' b g'=>o ι' H' b (g.trans g')
 |ct τ h=>exact λι' H' b g'=>o ι' H' b (g.trans g')
 |rt d h=>exact λι' H' b g'=>o ι' H' b (g.trans g')
 |ex c h=>exact λι' H' g'=>o ι' H' (g.trans g')
 |no=>exact o
theorem p8{α β:Type}{K:Fg}{E:XD}{Rp:List Addr->Hp->β->α->Prop}{ι:List Addr}{H:Hp}{r:R α}{k:α->Hd->Fl}{N:Ends}{P:β->Hp->Prop}
  (o:acs K E ι H (r.fl k) N) (hP:∀a h ι1 H1 b,Gr ι H ι1 H1->Rp ι1 H1 b a->HRep K ι1 H1 h->acs K E ι1 H1 (k a h) N->P b H1):out K E Rp ι H r P:=by
 cases r with
 |ok a h=>exact λι' H' b g r' hr=>hP a h ι' H' b g r' hr (nu o g)
 |ex c h=>exact o
 |no=>exact o
def lift{α β:Type}(K:Fg)(E:XD)(Rp:List Addr->Hp->β->α->Prop)(f:Sd->Hd->R α):St->Hp->(β->Hp->Prop)->Prop:=λσ H Q =>
 ∃ι τ h,SRep K ι H σ τ/\HRep K ι H h/\out K E Rp ι H (f τ h) Q
def a4m(K:Fg)(E:XD)(f:SS):TS:=λN σ H=>∃ι τ h,SRep K ι H σ τ/\HRep K ι H h/\acs K E ι H (f τ h) N
abbrev ME(X:Cx)(E:XD)(e:Expr)(f:SE):Prop:=PE X e (lift X.K E (yj X.K) f)
abbrev MT(X:Cx)(E:XD)(e:Expr)(f:ST):Prop:=PT X e (lift X.K E ant f)
abbrev MW(X:Cx)(E:XD)(e:Expr)(f:ST):Prop:=PW X e (lift X.K E ant f)
abbrev MA(X:Cx)(E:XD)(es:List Expr)(f:SA):Prop:=PA X es (lift X.K E (arz X.K) f)
abbrev MS(X:Cx)(E:XD)(st:Stmt)(f:SS):Prop:=PS X st (a4m X.K E f)
abbrev MSs(X:Cx)(E:XD)(st:List Stmt)(f:SS):Prop:=PSs X st (a4m X.K E f)
theorem PE.weak(h:PE X e t)(i:∀σ H Q,t' σ H Q->t σ H Q):PE X e t':=λaA s σ H Q I q=>h aA s σ H Q I (i _ _ _ q)
theorem PT.weak(h:PT X e t)(i:∀σ H Q,t' σ H Q->t σ H Q):PT X e t':=λaA s σ H Q I q=>h aA s σ H Q I (i _ _ _ q)
theorem PW.weak(h:PW X e t)(i:∀σ H Q,t' σ H Q->t σ H Q):PW X e t':=λwh aA s σ H Q I q=>h wh aA s σ H Q I (i _ _ _ q)
theorem PA.weak(h:PA X e t)(i:∀σ H Q,t' σ H Q->t σ H Q):PA X e t':=λpos aA s σ H Q I q=>h pos aA s σ H Q I (i _ _ _ q)
theorem PS.weak(h:PS X e t)(i:∀N σ H,t' N σ H->t N σ H):PS X e t':=λaA s σ H N I q=>h aA s σ H N I (i _ _ _ q)
theorem PSs.weak(h:PSs X e t)(i:∀N σ H,t' N σ H->t N σ H):PSs X e t':=λaA s σ H N I q=>h aA s σ H N I (i _ _ _ q)
abbrev LINE:Nat:=16777216
theorem ll{n:Nat}(h:n<=LINE):n<=sizeLine:=ahd h
def sV(i:Nat):SE:=λτ h=>match τ[i]? with|some (some d)=>.ok d h|_=>.no
def sC(d:D):SE:=λ_ h=>.ok d h
abbrev sI(i:Int):SE:=sC (.int i)
section
variable{X:Cx}{E:XD}{a b c e:Expr}{fa fb fc:SE}{pos:Pos}
theorem bf(i:Nat)(hN:X.N[i]? = some x:=by rfl)(hv:Vis X.env.scope x:=by with_unfolding_all first|exact Or.inl rfl|exact Or.inr (Or.inl rfl)|exact Or.inr (Or.inr rfl))(hd:(x == ("__debug__" : Str))=false:=by decide)
  (hcd:(x == ("__classdict__" : Str))=false:=by decide):ME X E (.Name x pos) (sV i):=by
 refine PE.weak (ajf hN hv hd hcd) ?_
 rintro σ H Q ⟨ι,τ,h,S,Rh,o⟩
 unfold sV at o
 split at o
 ·rename_i d e;obtain⟨v,h1,h2⟩:=S.val i d e;exact⟨v,h1,o ι H v (.refl _ _) h2 Rh⟩
 ·exact o.elim
theorem aix(h:PE X e (tC v))(r:∀ι H,Rep X.K ι H v d):ME X E e (sC d) :=
 PE.weak h λσ H Q ⟨ι,τ,h,S,Rh,o⟩=>o ι H v (.refl _ _) (r ι H) Rh
theorem ao{i j pos}:ME X E (.Constant (.int i) j pos) (sC (.int i)):=aix ajg λ_ _=>.int i
theorem akl{i j pos}:ME X E (.Constant (.bool i) j pos) (sC (.bl i)):=aix ao6 λ_ _=>.bl i
theorem bj{i j pos}:ME X E (.Constant (.str i) j pos) (sC (.str i)):=aix aji λ_ _=>.str i
theorem a3s{j pos}:ME X E (.Constant .none j pos) (sC .non):=aix ajh λ_ _=>.non
theorem zj(hg:Gl X x)(hm:X.mg x=none)(hv:bootBuiltins x=some (.type n))(hn:x ≠ "__name__":=by decide)(hd:(x == ("__debug__" : Str))=false:=by decide):ME X E (.Name x pos) (sC (.ty n)) :=
 aix (agm (v:=.ty n) hg hm hv rfl hn hd) λ_ _=>.ty n
theorem a7a(hg:Gl X x)(hm:X.mg x=some (.int i t))(hd:(x == ("__debug__" : Str))=false:=by decide):ME X E (.Name x pos) (sC (.int i)) :=
 aix (a4c (v:=.int i) hg hm ⟨t,rfl⟩ hd) λ_ _=>.int i
def s2(g:D->D->Hd->R D)(fa fb:SE):SE:=λτ h=>(fa τ h).bind λx h1=>(fb τ h1).bind λy h2=>g x y h2
def s1(g:D->Hd->R D)(fa:SE):SE:=λτ h=>(fa τ h).bind g
def zm(K:Fg)(g:D->D->Hd->R D)(r:R2):Prop:=∀(E:XD) ι H h x y dx dy Q,Rep K ι H x dx->Rep K ι H y dy->HRep K ι H h->out K E (yj K) ι H (g dx dy h) Q->r x y H Q
def a9n(K:Fg)(g:List D->Hd->R D)(r:List V->Hp->VK->Prop):Prop:=∀(E:XD) ι H h xs ds Q,Reps K ι H xs ds->HRep K ι H h->out K E (yj K) ι H (g ds h) Q->r xs H Q
theorem anu(hs:zm K g r)(q:lift K E (yj K) (s2 g fa fb) σ H Q):tOp r (lift K E (yj K) fa) (lift K E (yj K) fb) σ H Q:=by
 obtain⟨ι,τ,h,S,Rh,o⟩:=q;refine⟨ι,τ,h,S,Rh,bz o λd h1 ι1 H1 v g1 r1 hr1 o1=>?_⟩;refine⟨ι1,τ,h1,S.mono g1,hr1,bz o1 λd2 h2 ι2 H2 u g2 r2 hr2 o2=>?_⟩;exact hs E ι2 H2 h2 v u d d2 Q (r1.mono g2) r2 hr2 o2
theorem a98(ho:OpR X (binaryOp op) r)(hs:zm X.K g r)(ha:ME X E a fa)(hb:ME X E b fb):ME X E (.BinOp a op b pos) (s2 g fa fb) :=
 PE.weak (aok ho ha hb) λσ H Q q=>anu hs q
theorem qd(ho:OpR X (compareOp op) r)(hs:zm X.K g r)(ha:ME X E a fa)(hb:ME X E b fb)(hm:behindInMarks op b=false):ME X E (.Compare a [op] [b] pos) (s2 g fa fb) :=
 PE.weak (agv ho ha hb hm) λσ H Q q=>anu hs q
theorem ap1(ho:IxR X r)(hs:zm X.K g r)(ha:ME X E a fa)(hb:ME X E b fb)(hp:a4i b):ME X E (.Subscript a b pos) (s2 g fa fb) :=
 PE.weak (aor ho ha hb hp) λσ H Q q=>anu hs q
def asB(d:D)(h:Hd):R Bool:=match d with|.bl b=>.ok b h|_=>.no
def sT(f:SE):ST:=λτ h=>(f τ h).bind asB
theorem a4n(hi:∀σ H Q,lift K E (yj K) f σ H Q->t σ H Q)(q:lift K E ant (sT f) σ H Q):agw t σ H Q:=by
 refine hi σ H _ ?_;obtain⟨ι,τ,h,S,Rh,o⟩:=q;refine⟨ι,τ,h,S,Rh,bz o λd h1 ι1 H1 v g1 r1 hr1 o1=>?_⟩
 cases r1 with
 |bl b=>exact⟨b,rfl,o1 ι1 H1 b (.refl _ _) rfl hr1⟩
 |_=>exact o1.elim
theorem a2k(ho:OpR X (compareOp op) r)(hs:zm X.K g r)(ha:ME X E a fa)(hb:ME X E b fb)(hm:behindInMarks op b=false):MT X E (.Compare a [op] [b] pos) (sT (s2 g fa fb)) :=
 PT.weak (a75 ho ha hb hm) λσ H Q q=>a4n (λ_ _ _=>anu hs) q
def sCh(g g':D->D->Hd->R D)(fa fb fc:SE):SE:=λτ h=>(fa τ h).bind λx h1=>(fb τ h1).bind λy h2=>(g x y h2).bind λz h3=>match z with
 |.bl true=>(fc τ h3).bind λw h4=>g' y w h4
 |.bl false=>.ok (.bl false) h3
 |_=>.no
theorem af9(hs:zm K g r)(hs':zm K g' r')(q:lift K E (yj K) (sCh g g' fa fb fc) σ H Q) :
  a9z r r' (lift K E (yj K) fa) (lift K E (yj K) fb) (lift K E (yj K) fc) σ H Q:=by
 obtain⟨ι,τ,h,S,Rh,o⟩:=q;refine⟨ι,τ,h,S,Rh,bz o λd h1 ι1 H1 v g1 r1 hr1 o1=>?_⟩;refine⟨ι1,τ,h1,S.mono g1,hr1,bz o1 λd2 h2 ι2 H2 u g2 r2 hr2 o2=>?_⟩;refine hs E ι2 H2 h2 v u d d2 _ (r1.mono g2) r2 hr2 (bz o2 λd3 h3 ι3 H3 z g3 r3 hr3 o3=>?_)
 cases r3 with
 |bl k =>
  refine⟨k,rfl,?_⟩
  cases k with
  |true =>
   rw[aJ rfl];refine⟨ι3,τ,h3,((S.mono g1).mono g2).mono g3,hr3,bz o3 λd4 h4 ι4 H4 w g4 r4 hr4 o4=>?_⟩;exact hs' E ι4 H4 h4 u w d2 d4 Q ((r2.mono g3).mono g4) r4 hr4 o4
  |false =>
   rw[aY aW];exact o3 ι3 H3 (.bl false) (.refl _ _) (.bl false) hr3
 |_=>exact o3.elim
theorem a4o(ho:OpR X (compareOp op) r)(ho':OpR X (compareOp op') r')(hs:zm X.K g r)(hs':zm X.K g' r')(ha:ME X E a fa)(hb:ME X E b fb)(hc:ME X E c fc)
  (hm:lastMarks [op,op'] [b,c]=false:=by with_unfolding_all rfl):ME X E (.Compare a [op,op'] [b,c] pos) (sCh g g' fa fb fc) :=
 PE.weak (ad8 ho ho' ha hb hc hm) λσ H Q q=>af9 hs hs' q
theorem adu(ho:OpR X (compareOp op) r)(ho':OpR X (compareOp op') r')(hs:zm X.K g r)(hs':zm X.K g' r')(ha:ME X E a fa)(hb:ME X E b fb)(hc:ME X E c fc)
  (hm:lastMarks [op,op'] [b,c]=false:=by with_unfolding_all rfl):MT X E (.Compare a [op,op'] [b,c] pos) (sT (sCh g g' fa fb fc)) :=
 PT.weak (ad9 ho ho' ha hb hc hm) λσ H Q q=>a4n (λ_ _ _=>af9 hs hs') q
def tru(d:D)(h:Hd):R Bool:=match d with
 |.non=>.ok false h
 |.bl b=>.ok b h
 |.int i=>.ok (i != 0) h
 |.str x=>if x.length<=LINE then .ok ((x.length:Int) != 0) h else .no
 |.tup xs=>.ok (!xs.isEmpty) h
 |.rol xs=>.ok (!xs.isEmpty) h
 |.ref i=>match h[i]? with
  |some (.lst xs)=>.ok (!xs.isEmpty) h
  |some (.dK kvs)=>.ok (!kvs.isEmpty) h
  |_=>.no
 |_=>.no
theorem Reps.emp{K:Fg}{ι:List Addr}{H:Hp}{vs:List V}{ds:List D}(r:Reps K ι H vs ds):vs.isEmpty=ds.isEmpty:=by cases r<;>rfl
theorem KRep.emp{κ:Type}{K:Fg}{ι:List Addr}{H:Hp}{us:List (κ×V)}{kvs:List (κ×D)}(r:KRep K ι H us kvs):us.isEmpty=kvs.isEmpty:=by
 have:=ah List.length r.1
 cases us<;>cases kvs<;>simp at this ⊢
theorem ahh{K:Fg}{ι:List Addr}{H:Hp}{h:Hd}{x:V}{d:D}{Q:Bool->Hp->Prop}(r:Rep K ι H x d)(hr:HRep K ι H h)(o:out K E ant ι H (tru d h) Q):∃k,aom K x H k/\Q k H:=by
 cases r with
 |non=>exact⟨false,rfl,o ι H _ (.refl _ _) rfl hr⟩
 |bl b=>exact⟨b,rfl,o ι H _ (.refl _ _) rfl hr⟩
 |int i=>exact⟨_,rfl,o ι H _ (.refl _ _) rfl hr⟩
 |str x =>
  by_cases hl:x.length<=LINE
  ·simp only[tru,aJ hl]at o;exact⟨_,⟨ll hl,rfl⟩,o ι H _ (.refl _ _) rfl hr⟩
  ·simp only[tru,aY hl]at o;exact o.elim
 |ty n=>exact o.elim
 |rod _ _ _=>exact o.elim
 |scr _ _=>exact o.elim
 |rdT _ _ _=>exact o.elim
 |exc _ _ _=>exact o.elim
 |ins _ _ _ _=>exact o.elim
 |tup e rs=>exact⟨_,.inr (.inl ⟨_,SqT.of e,rfl⟩),by rw[rs.emp];exact o ι H _ (.refl _ _) rfl hr⟩
 |rol e rs=>exact⟨_,.inl ⟨_,e.l,rfl⟩,by rw[rs.emp];exact o ι H _ (.refl _ _) rfl hr⟩
 |@ref a i e =>
  obtain⟨ob,h1,h2⟩:=hr.at e;simp only[tru,h1]at o
  cases ob with
  |lst xs =>
   obtain⟨vs,h3,h4⟩:=h2;exact⟨_,.inl ⟨_,SqL.of h3,rfl⟩,by rw[h4.emp];exact o ι H _ (.refl _ _) rfl hr⟩
  |dK kvs =>
   obtain⟨us,h3,h4⟩:=h2;exact⟨_,.inr (.inr ⟨_,h3,rfl⟩),by rw[h4.emp];exact o ι H _ (.refl _ _) rfl hr⟩
  |dT kvs=>exact o.elim
  |ins _ _=>exact o.elim
  |dN _=>exact o.elim
def a3e(f:SE):ST:=λτ h=>(f τ h).bind tru
theorem ue(ha:ME X E a fa)(he:∀whole,isTrue a X.env whole=(do let v <-whole;standAt a.pos;holding [v] (truthy v)):=by intro _;rfl):MT X E a (a3e fa):=by
 refine PT.weak (ada ha he) ?_
 rintro σ H Q ⟨ι,τ,h,S,Rh,o⟩
 exact⟨ι,τ,h,S,Rh,bz o λd h1 ι1 H1 v g1 r1 hr1 o1=>ahh r1 hr1 o1⟩
def aaq(f g:ST):ST:=λτ h=>(f τ h).bind λb h1=>if b=true then g τ h1 else .ok false h1
def sOr(f g:ST):ST:=λτ h=>(f τ h).bind λb h1=>if b=true then .ok true h1 else g τ h1
def a70(f:ST):ST:=λτ h=>(f τ h).bind λb h1=>.ok (!b) h1
variable{ga gb:ST}
theorem a4p(ha:MT X E a ga):MW X E (.BoolOp .And [a] pos) ga:=agn ha
theorem zx(ha:MT X E a ga):MW X E (.BoolOp .Or [a] pos) ga:=ajj ha
theorem a81{aG:List Expr}(ha:MT X E a ga)(hb:MW X E (.BoolOp .And (b::aG) pos) gb):MW X E (.BoolOp .And (a::b::aG) pos) (aaq ga gb):=by
 refine PW.weak (ajk ha hb) ?_
 rintro σ H Q ⟨ι,τ,h,S,Rh,o⟩
 refine⟨ι,τ,h,S,Rh,bz o λd h1 ι1 H1 v g1 r1 hr1 o1=>?_⟩;cases r1
 cases d with
 |true=>exact⟨ι1,τ,h1,S.mono g1,hr1,o1⟩
 |false=>exact o1 ι1 H1 false (.refl _ _) rfl hr1
theorem a0c{aG:List Expr}(ha:MT X E a ga)(hb:MW X E (.BoolOp .Or (b::aG) pos) gb):MW X E (.BoolOp .Or (a::b::aG) pos) (sOr ga gb):=by
 refine PW.weak (ao7 ha hb) ?_
 rintro σ H Q ⟨ι,τ,h,S,Rh,o⟩
 refine⟨ι,τ,h,S,Rh,bz o λd h1 ι1 H1 v g1 r1 hr1 o1=>?_⟩;cases r1
 cases d with
 |true=>exact o1 ι1 H1 true (.refl _ _) rfl hr1
 |false=>exact⟨ι1,τ,h1,S.mono g1,hr1,o1⟩
theorem a2l(ha:MT X E a ga):MT X E (.UnaryOp .Not a pos) (a70 ga):=by
 refine PT.weak (ajl ha) ?_
 rintro σ H Q ⟨ι,τ,h,S,Rh,o⟩
 refine⟨ι,τ,h,S,Rh,bz o λd h1 ι1 H1 v g1 r1 hr1 o1=>?_⟩;cases r1
 exact o1 ι1 H1 _ (.refl _ _) rfl hr1
def rm(f g:SE):SE:=λτ h=>(f τ h).bind λd h1=>match d with|.bl true=>g τ h1|.bl false=>.ok (.bl false) h1|_=>.no
def aqa(f g:SE):SE:=λτ h=>(f τ h).bind λd h1=>match d with|.bl true=>.ok (.bl true) h1|.bl false=>g τ h1|_=>.no
def a99(f:SE):SE:=λτ h=>(f τ h).bind λd h1=>match d with|.bl b=>.ok (.bl (!b)) h1|_=>.no
theorem ut{op}(ha:ME X E a fa):ME X E (.BoolOp op [a] pos) fa:=ajm ha
theorem ph{aG:List Expr}(ha:ME X E a fa)(hb:ME X E (.BoolOp .And (b::aG) pos) fb):ME X E (.BoolOp .And (a::b::aG) pos) (rm fa fb):=by
 refine PE.weak (ajn ha hb) ?_
 rintro σ H Q ⟨ι,τ,h,S,Rh,o⟩
 refine⟨ι,τ,h,S,Rh,bz o λd h1 ι1 H1 v g1 r1 hr1 o1=>?_⟩
 cases r1 with
 |bl k =>
  refine⟨k,rfl,?_⟩
  cases k with
  |true=>exact⟨ι1,τ,h1,S.mono g1,hr1,o1⟩
  |false=>exact o1 ι1 H1 _ (.refl _ _) (.bl _) hr1
 |_=>exact o1.elim
theorem akm(ha:ME X E a fa):ME X E (.UnaryOp .Not a pos) (a99 fa):=by
 refine PE.weak (ajo ha) ?_
 rintro σ H Q ⟨ι,τ,h,S,Rh,o⟩
 refine⟨ι,τ,h,S,Rh,bz o λd h1 ι1 H1 v g1 r1 hr1 o1=>?_⟩
 cases r1 with
 |bl k=>exact⟨k,rfl,o1 ι1 H1 _ (.refl _ _) (.bl _) hr1⟩
 |_=>exact o1.elim
def afa(c:ST)(f g:SE):SE:=λτ h=>(c τ h).bind λb h1=>if b=true then f τ h1 else g τ h1
theorem afb(hc:MT X E c ga)(ha:ME X E a fa)(hb:ME X E b fb):ME X E (.IfExp c a b pos) (afa ga fa fb):=by
 refine PE.weak (ad2 hc ha hb) ?_
 rintro σ H Q ⟨ι,τ,h,S,Rh,o⟩
 refine⟨ι,τ,h,S,Rh,bz o λd h1 ι1 H1 v g1 r1 hr1 o1=>?_⟩;cases r1
 cases d with
 |true=>exact⟨ι1,τ,h1,S.mono g1,hr1,o1⟩
 |false=>exact⟨ι1,τ,h1,S.mono g1,hr1,o1⟩
def dh:SA:=λ_ h=>.ok [] h
def aj(f:SE)(g:SA):SA:=λτ h=>(f τ h).bind λd h1=>(g τ h1).bind λds h2=>.ok (d::ds) h2
variable{es:List Expr}{ka:SA}
theorem aq:MA X E [] dh:=PA.weak a7u λσ H Q ⟨ι,τ,h,S,Rh,o⟩=>o ι H [] (.refl _ _) .nil Rh
theorem aa(ha:ME X E e fa)(hr:MA X E es ka)(hs:starEach (e::es) X.env=(false,eval e X.env)::starEach es X.env:=by rfl):MA X E (e::es) (aj fa ka):=by
 refine PA.weak (a2a ha hr hs) ?_
 rintro σ H Q ⟨ι,τ,h,S,Rh,o⟩
 refine⟨ι,τ,h,S,Rh,bz o λd h1 ι1 H1 v g1 r1 hr1 o1=>?_⟩;refine⟨ι1,τ,h1,S.mono g1,hr1,bz o1 λd2 h2 ι2 H2 u g2 r2 hr2 o2=>?_⟩;exact o2 ι2 H2 _ (.refl _ _) (.cons (r1.mono g2) r2) hr2
def xu(ds:List D)(h:Hd):R D:=if ds.length<=LINE then .ok (.tup ds) h else .no
def a9a(ds:List D)(h:Hd):R D:=if ds.length<=LINE then .ok (.ref h.length) (h++[.lst ds]) else .no
def sA(g:List D->Hd->R D)(k:SA):SE:=λτ h=>(k τ h).bind g
theorem a02(r:Reps K ι H vs ds)(hr:HRep K ι H h)(o:out K E (yj K) ι H (.ok (.tup ds) h) Q):∀p,H p=none->Q (.ref p) (upd H p (.tup vs)):=λp hp =>
 o ι _ _ (yh hp _) (.tup qp (r.mono (yh hp _))) (hr.aside hp _)
theorem uf(r:Reps K ι H vs ds)(hr:HRep K ι H h)(o:out K E (yj K) ι H (.ok (.ref h.length) (h++[.lst ds])) Q):∀p,H p=none->Q (.ref p) (upd H p (.lst vs)):=λp hp =>
 o (ι++[p]) _ _ (aap hp _) (.ref (by rw[ar (by rw[hr.len];exact ai _),hr.len];simp)) (hr.add hp ⟨_,qp,r.mono (aap hp _)⟩)
theorem ahi{K:Fg}{ι:List Addr}{H:Hp}{h:Hd}{i:Nat}{a:Addr}{vs:List V}{ds:List D}{d:D}{v:V}{Q:VK}(r:Reps K ι H vs ds)(hr:HRep K ι H h)(hi:ι[i]? = some a)(rd:Rep K ι H v d)(o:out K E (yj K) ι H (.ok d (h.set i (.lst ds))) Q):Q v (upd H a (.lst vs)) :=
 o ι _ _ (a3r hr hi _) (rd.mono (a3r hr hi _)) (hr.put hi ⟨_,qp,r.mono (a3r hr hi _)⟩)
theorem lu{x1}(h:MA X E es ka):ME X E (.Tuple es x1 pos) (sA xu ka):=by
 refine PE.weak (ak3 h) ?_
 rintro σ H Q ⟨ι,τ,h,S,Rh,o⟩
 refine⟨ι,τ,h,S,Rh,bz o λd h1 ι1 H1 v g1 r1 hr1 o1=>?_⟩;unfold xu at o1
 split at o1
 ·rename_i hl;exact⟨ll (by rw[r1.len];exact hl),a02 r1 hr1 o1⟩
 ·exact o1.elim
theorem a6d(h:MA X E es ka):ME X E (.List es pos) (sA a9a ka):=by
 refine PE.weak (ak4 h) ?_
 rintro σ H Q ⟨ι,τ,h,S,Rh,o⟩
 refine⟨ι,τ,h,S,Rh,bz o λd h1 ι1 H1 v g1 r1 hr1 o1=>?_⟩;unfold a9a at o1
 split at o1
 ·rename_i hl;exact⟨ll (by rw[r1.len];exact hl),uf r1 hr1 o1⟩
 ·exact o1.elim
theorem ug{x:Str}{p:Pos}{id:String}{r:List V->Hp->VK->Prop}{g:List D->Hd->R D}(hc:CallR X (.builtin id) r)(hs:a9n X.K g r)(hg:Gl X x)(hm:X.mg x=none)(hv:bootBuiltins x=some (.builtin id))(ha:MA X E (e::es) ka)(hn:x ≠ "__name__":=by decide)(hdb:(x == ("__debug__" : Str))=false:=by decide)
  (he:starEach (e::es) X.env=(false,eval e X.env)::starEach es X.env:=by rfl) (hpl:(backTo pos (starEach es X.env)).any (·.1)=false:=by rfl):ME X E (.Call (.Name x p) (e::es) [] pos) (sA g ka):=by
 refine PE.weak (a7x hc hg hm hv ha hn hdb he hpl) ?_
 rintro σ H Q ⟨ι,τ,h,S,Rh,o⟩
 exact⟨ι,τ,h,S,Rh,bz o λd h1 ι1 H1 v g1 r1 hr1 o1=>hs E ι1 H1 h1 v d Q r1 hr1 o1⟩
theorem a2m{x:Str}{p:Pos}{id:String}{r:List V->Hp->VK->Prop}{g:List D->Hd->R D}(hc:CallR X (.type id) r)(hs:a9n X.K g r)(hg:Gl X x)(hm:X.mg x=none)(hv:bootBuiltins x=some (.type id))(ha:MA X E (e::es) ka)(hn:x ≠ "__name__":=by decide)(hdb:(x == ("__debug__" : Str))=false:=by decide)
  (he:starEach (e::es) X.env=(false,eval e X.env)::starEach es X.env:=by rfl) (hpl:(backTo pos (starEach es X.env)).any (·.1)=false:=by rfl):ME X E (.Call (.Name x p) (e::es) [] pos) (sA g ka):=by
 refine PE.weak (a5v hc hg hm hv ha hn hdb he hpl) ?_
 rintro σ H Q ⟨ι,τ,h,S,Rh,o⟩
 exact⟨ι,τ,h,S,Rh,bz o λd h1 ι1 H1 v g1 r1 hr1 o1=>hs E ι1 H1 h1 v d Q r1 hr1 o1⟩
end
def il(f g:SS):SS:=λτ h=>match f τ h with|.nx τ1 h1=>g τ1 h1|r=>r
def sNx:SS:=λτ h=>.nx τ h
def jw(f:SE):SS:=λτ h=>(f τ h).fl λd h1=>.rt d h1
def a4q(f:SE):SS:=λτ h=>(f τ h).fl λ_ h1=>.nx τ h1
def sIf(c:ST)(f g:SS):SS:=λτ h=>(c τ h).fl λb h1=>if b=true then f τ h1 else g τ h1
def o8(i:Nat)(f:SE):SS:=λτ h=>(f τ h).fl λd h1=>.nx (τ.set i (some d)) h1
def acu(i:Nat)(g:D->D->Hd->R D)(f:SE):SS:=λτ h=>match τ[i]? with
 |some (some x)=>(f τ h).fl λy h1=>(g x y h1).fl λz h2=>.nx (τ.set i (some z)) h2
 |_=>.no
section
variable{X:Cx}{E:XD}{e o:Expr}{es:List Expr}{fa fb fc:SE}{ga:ST}{st:Stmt}{sts a b:List Stmt}{f g:SS}{pos:Pos}
theorem cu:MSs X E [] sNx:=PSs.weak ago λN σ H ⟨ι,τ,h,S,Rh,o⟩=>o ι H σ (.refl _ _) S Rh
theorem akn(q:a4m K E (il f g) N σ H):a4m K E f {N with nx:=a4m K E g N} σ H:=by
 obtain⟨ι,τ,h,S,Rh,o⟩:=q;refine⟨ι,τ,h,S,Rh,?_⟩;unfold il at o
 cases hf:f τ h with
 |nx τ1 h1 =>
  rw[hf]at o;exact λι1 H1 σ1 g1 S1 R1=>⟨ι1,τ1,h1,S1,R1,nu o g1⟩
 |_=>rw[hf]at o;exact o
theorem ak(h1:MS X E st f)(h2:MSs X E sts g):MSs X E (st::sts) (il f g):=PSs.weak (ad3 h1 h2) λN σ H q=>akn q
theorem az(h1:MS X E st f):MSs X E [st] f:=agp h1
theorem dm(he:ME X E e fa):MS X E (.Return (some e) pos) (jw fa):=by
 refine PS.weak (ajp he) ?_
 rintro N σ H ⟨ι,τ,h,S,Rh,o⟩
 exact⟨ι,τ,h,S,Rh,p8 o λd h1 ι1 H1 v g1 r1 hr1 o1=>o1 ι1 H1 v (.refl _ _) r1 hr1⟩
theorem a7b(he:ME X E e fa)(hs:swapsWith e none pos.line X.env=pure false:=by rfl):MS X E (.Expr e pos) (a4q fa):=by
 refine PS.weak (agq he hs) ?_
 rintro N σ H ⟨ι,τ,h,S,Rh,o⟩
 exact⟨ι,τ,h,S,Rh,p8 o λd h1 ι1 H1 v g1 r1 hr1 o1=>o1 ι1 H1 σ (.refl _ _) (S.mono g1) hr1⟩
theorem j4(hc:MT X E c ga)(ha:MSs X E a f)(hb:MSs X E b g):MS X E (.If c a b pos) (sIf ga f g):=by
 refine PS.weak (aoc hc ha hb) ?_
 rintro N σ H ⟨ι,τ,h,S,Rh,o⟩
 refine⟨ι,τ,h,S,Rh,p8 o λd h1 ι1 H1 v g1 r1 hr1 o1=>?_⟩;cases r1
 cases d with
 |true=>exact⟨ι1,τ,h1,S.mono g1,hr1,o1⟩
 |false=>exact⟨ι1,τ,h1,S.mono g1,hr1,o1⟩
theorem ako(hN:X.N.Nodup)(hi:X.N[i]? = some x)(hx:Loc X.env.scope x)(he:ME X E e fa)(hs:swapsWith e (some (.Name x pos')) pos.line X.env=pure false:=by rfl)(hf:Hf X x:=by with_unfolding_all first|exact .inl rfl|exact .inr rfl|assumption) :
  MS X E (.Assign [.Name x pos'] e pos) (o8 i fa):=by
 refine PS.weak (ajs hN hi hx he hs hf) ?_
 rintro N σ H ⟨ι,τ,h,S,Rh,o⟩
 exact⟨ι,τ,h,S,Rh,p8 o λd h1 ι1 H1 v g1 r1 hr1 o1=>o1 ι1 H1 _ (.refl _ _) ((S.mono g1).set r1 i) hr1⟩
theorem a82(hN:X.N.Nodup)(hi:X.N[i]? = some x)(hx:Loc X.env.scope x)(ho:OpR X (inplaceOp op) r)(hs:zm X.K gg r)(he:ME X E e fa)(hf:Hf X x:=by with_unfolding_all first|exact .inl rfl|exact .inr rfl|assumption) :
  MS X E (.AugAssign (.Name x pos') op e pos) (acu i gg fa):=by
 refine PS.weak (ajt hN hi hx he ho hf) ?_
 rintro N σ H ⟨ι,τ,h,S,Rh,o⟩
 unfold acu at o
 split at o
 ·rename_i d ed;obtain⟨v,h1,h2⟩:=S.val i d ed;refine⟨v,h1,ι,τ,h,S,Rh,p8 o λd2 h3 ι1 H1 u g1 r1 hr1 o1=>?_⟩;refine hs E ι1 H1 h3 v u d d2 _ (h2.mono g1) r1 hr1 (p8 o1 λd3 h4 ι2 H2 z g2 r2 hr2 o2=>?_);exact o2 ι2 H2 _ (.refl _ _) (((S.mono g1).mono g2).set r2 i) hr2
 ·exact o.elim
def put(o k v:D)(h:Hd):Option Hd:=match o,k with
 |.ref i,.int j=>match h[i]? with
  |some (.lst xs)=>match ixN xs.length j with
   |some m=>some (h.set i (.lst (xs.set m v)))
   |none=>none
  |_=>none
 |_,_=>none
theorem aar{K:Fg}{ι:List Addr}{H:Hp}{h h':Hd}{o k v:V}{od kd vd:D}{Q:Hp->Prop}(r1:Rep K ι H o od)(r2:Rep K ι H k kd)(r3:Rep K ι H v vd)(hr:HRep K ι H h)(e:put od kd vd h=some h')
  (q:∀H',Gr ι H ι H'->HRep K ι H' h'->Q H'):aka o k v H Q:=by
 cases r1 with
 |@ref a i ha =>
  cases r2 with
  |int j =>
   obtain⟨ob,h1,h2⟩:=hr.at ha
   cases ob with
   |lst xs =>
    obtain⟨vs,h3,h4⟩:=h2;simp only[put,h1]at e
    cases hm:ixN xs.length j with
    |none=>rw[hm]at e;cases e
    |some m =>
     rw[hm]at e;cases e
     exact⟨a,vs,j,m,rfl,rfl,h3,by rw[h4.len];exact hm,q _ (a3r hr ha _) (hr.put ha ⟨_,qp,(h4.set r3 m).mono (a3r hr ha _)⟩)⟩
   |dK _=>simp only[put,h1]at e;cases e
   |dT _=>simp only[put,h1]at e;cases e
   |ins _ _=>simp only[put,h1]at e;cases e
   |dN _=>simp only[put,h1]at e;cases e
  |_=>cases e
 |_=>cases e
def aiy(fe fo fi:SE):SS:=λτ h=>(fe τ h).fl λv h1=>(fo τ h1).fl λo h2=>(fi τ h2).fl λk h3=>match put o k v h3 with|some h4=>.nx τ h4|none=>.no
theorem aas(he:ME X E e fa)(ho:ME X E o fb)(hi:ME X E i fc)
  (hs:swapsWithSole [.Subscript o i pos'] e pos.line X.env=pure false:=by rfl) (hw:swappedStores [.Subscript o i pos'] e X.env=pure none:=by rfl)
  (h1:(assignEach [.Subscript o i pos'] X.env).map (·.2)=[assign (.Subscript o i pos') X.env]:=by rfl)
  (ha:∀v,assign (.Subscript o i pos') X.env v=(do
   let ov <-holding [v] (eval o X.env)
   let iv <-holding [v,ov] (eval i X.env)
   standAt pos'
   holding [v,ov,iv] (setItem ov iv v)
   release [v,ov,iv] []):=by intro _;rfl):MS X E (.Assign [.Subscript o i pos'] e pos) (aiy fa fb fc):=by
 refine PS.weak (aey he (ajr ho hi set_list ha) hs hw h1) ?_
 rintro N σ H ⟨ι,τ,h,S,Rh,oo⟩
 refine⟨ι,τ,h,S,Rh,p8 oo λd h1 ι1 H1 v g1 r1 hr1 o1=>?_⟩;refine⟨ι1,τ,h1,S.mono g1,hr1,p8 o1 λd2 h2 ι2 H2 u g2 r2 hr2 o2=>?_⟩;refine⟨ι2,τ,h2,(S.mono g1).mono g2,hr2,p8 o2 λd3 h3 ι3 H3 w g3 r3 hr3 o3=>?_⟩
 cases hp:put d2 d3 d h3 with
 |none=>rw[hp]at o3;exact o3.elim
 |some h4 =>
  rw[hp]at o3;exact aar (r2.mono g3) r3 ((r1.mono g2).mono g3) hr3 hp λH' g4 hr4=>o3 ι3 H' σ g4 ((((S.mono g1).mono g2).mono g3).mono g4) hr4
def sWh(c:ST)(f:SS):Nat->SS
 |0,_,_=>.no
 |n+1,τ,h=>(c τ h).fl λb h1=>if b=true then (match f τ h1 with|.nx τ2 h2=>sWh c f n τ2 h2|.ct τ2 h2=>sWh c f n τ2 h2|.bk τ2 h2=>.nx τ2 h2|r=>r) else .nx τ h1
theorem a83(n:Nat)(hp:PassesOwn (model X.prog X.w) X.A X.env X.xe)(hc:MT X E c ga)(hb:MSs X E a f):MS X E (.While c a [] pos) (sWh ga f n):=by
 refine PS.weak (ad5 hp hc hb) λN σ H q=>?_;refine⟨λm σ H=>a4m X.K E (sWh ga f m) N σ H,⟨n,q⟩,?_⟩
 rintro m σ1 H1 ⟨ι,τ,h,S,Rh,o⟩
 cases m with
 |zero=>exact o.elim
 |succ m =>
  refine⟨ι,τ,h,S,Rh,p8 o λd h1 ι1 H1 v g1 r1 hr1 o1=>?_⟩;cases r1
  cases d with
  |false=>exact o1 ι1 H1 _ (.refl _ _) (S.mono g1) hr1
  |true =>
   refine⟨λσ' H'=>a4m X.K E (sWh ga f m) N σ' H',λσ' H' q=>⟨m,eI m,q⟩,ι1,τ,h1,S.mono g1,hr1,?_⟩;rw[aJ rfl]at o1
   cases hf:f τ h1 with
   |nx τ2 h2=>rw[hf]at o1;exact λι2 H2 σ2 g2 S2 R2=>⟨ι2,τ2,h2,S2,R2,nu o1 g2⟩
   |ct τ2 h2=>rw[hf]at o1;exact λι2 H2 σ2 g2 S2 R2=>⟨ι2,τ2,h2,S2,R2,nu o1 g2⟩
   |bk τ2 h2=>rw[hf]at o1;exact o1
   |rt d h2=>rw[hf]at o1;exact o1
   |ex c h2=>rw[hf]at o1;exact o1
   |no=>rw[hf]at o1;exact o1.elim
end
abbrev SG:=D->Sd->Hd->Fl
def ahj(K:Fg)(E:XD)(g:SG):TG:=λv σ H Q=>∃ι τ h d,Rep K ι H v d/\SRep K ι H σ τ/\HRep K ι H h/\acs K E ι H (g d τ h) {nx:=Q,rt:=λ_ _=>False}
abbrev MG(X:Cx)(E:XD)(tg:Expr)(g:SG):Prop:=PG X tg (ahj X.K E g)
abbrev SGs:=List D->Sd->Hd->Fl
def aat(K:Fg)(E:XD)(g:SGs):TGs:=λvs σ H Q=>∃ι τ h ds,Reps K ι H vs ds/\SRep K ι H σ τ/\HRep K ι H h/\acs K E ι H (g ds τ h) {nx:=Q,rt:=λ_ _=>False}
abbrev MGs(X:Cx)(E:XD)(tg:List Expr)(g:SGs):Prop:=PGs X tg (aat X.K E g)
theorem PG.weak(h:PG X e t)(i:∀v σ H Q,t' v σ H Q->t v σ H Q):PG X e t':=λaA s σ H v u Q I r q=>h aA s σ H v u Q I r (i _ _ _ _ q)
theorem PGs.weak(h:PGs X e t)(i:∀v σ H Q,t' v σ H Q->t v σ H Q):PGs X e t':=λaA s σ H v u Q I r q=>h aA s σ H v u Q I r (i _ _ _ _ q)
def kN(i:Nat):SG:=λd τ h=>.nx (τ.set i (some d)) h
def acv:SGs:=λds τ h=>match ds with|[]=>.nx τ h|_=>.no
def w6(g:SG)(k:SGs):SGs:=λds τ h=>match ds with|d::r=>(match g d τ h with|.nx τ1 h1=>k r τ1 h1|_=>.no)|[]=>.no
def aau(n:Nat)(k:SGs):SG:=λd τ h=>match d with|.tup ds=>if ds.length=n then k ds τ h else .no|_=>.no
section
variable{X:Cx}{E:XD}{e:Expr}{es:List Expr}{fa:SE}{pos:Pos}{g:SG}{ks:SGs}
theorem lz(hN:X.N.Nodup)(hi:X.N[i]? = some x)(hx:Loc X.env.scope x)(hf:Hf X x:=by with_unfolding_all first|exact .inl rfl|exact .inr rfl|assumption):MG X E (.Name x pos) (kN i) :=
 PG.weak (a73 hN hi hx hf) λv σ H Q ⟨ι,τ,h,d,r,S,Rh,o⟩=>o ι H _ (.refl _ _) (S.set r i) Rh
theorem a0u:MGs X E [] acv:=by
 refine PGs.weak a9t ?_
 rintro vs σ H Q ⟨ι,τ,h,ds,r,S,Rh,o⟩
 cases r with
 |nil=>exact⟨rfl,o ι H σ (.refl _ _) S Rh⟩
 |cons _ _=>exact o.elim
theorem adv(q:aat K E (w6 g ks) vs σ H Q):ad4 (ahj K E g) (aat K E ks) vs σ H Q:=by
 obtain⟨ι,τ,h,ds,r,S,Rh,o⟩:=q
 cases r with
 |nil=>exact o.elim
 |@cons v d vs ds r rs =>
  refine⟨v,vs,rfl,ι,τ,h,d,r,S,Rh,?_⟩;simp only[w6]at o
  cases hg:g d τ h with
  |nx τ1 h1 =>
   rw[hg]at o;exact λι1 H1 σ1 g1 S1 R1=>⟨ι1,τ1,h1,ds,rs.mono g1,S1,R1,nu o g1⟩
  |_=>rw[hg]at o;exact o.elim
theorem a3t(hc:X.calm=true)(h:MGs X E es ks)(hn:(assignEach es X.env).length=n:=by rfl)(hst:(assignEach es X.env).findIdx? (·.1)=none:=by rfl):MG X E (.Tuple es k pos) (aau n ks):=by
 refine PG.weak (aex hc h hn hst) ?_
 rintro v σ H Q ⟨ι,τ,h,d,r,S,Rh,o⟩
 cases r with
 |@tup a vs xs e rs =>
  simp only[aau]at o
  by_cases hl:xs.length=n
  ·rw[aJ hl]at o;exact⟨a,vs,rfl,SqT.of e,by rw[rs.len];exact hl,ι,τ,h,xs,rs,S,Rh,o⟩
  ·rw[aY hl]at o;exact o.elim
 |_=>exact o.elim
def a9o(f:SE)(g:SG):SS:=λτ h=>(f τ h).fl λd h1=>match g d τ h1 with|.nx τ2 h2=>.nx τ2 h2|_=>.no
theorem a3u(he:ME X E e fa)(hg:MG X E tg g)(hs:swapsWithSole [tg] e pos.line X.env=pure false:=by rfl)(hw:swappedStores [tg] e X.env=pure none:=by rfl)
  (h1:(assignEach [tg] X.env).map (·.2)=[assign tg X.env]:=by rfl):MS X E (.Assign [tg] e pos) (a9o fa g):=by
 refine PS.weak (aey he hg hs hw h1) ?_
 rintro N σ H ⟨ι,τ,h,S,Rh,o⟩
 refine⟨ι,τ,h,S,Rh,p8 o λd h1 ι1 H1 v g1 r1 hr1 o1=>⟨ι1,τ,h1,d,r1,S.mono g1,hr1,?_⟩⟩
 cases hg:g d τ h1 with
 |nx τ1 h1=>rw[hg]at o1;exact o1
 |_=>rw[hg]at o1;exact o1.elim
end
structure Itm where
 xs:List D
 ck:Hd->Prop
def akp(K:Fg)(ι0:List Addr)(H0:Hp)(J:It)(it:Itm):Prop:=∀ι H h,Gr ι0 H0 ι H->HRep K ι H h->it.ck h->
 (∀(i:Nat) (d:D),it.xs[i]? = some d->J.go i H/\∀x H',J.yld i H x H'->Gr ι H ι H'/\Rep K ι H' x d/\HRep K ι H' h)/\J.stop it.xs.length H
abbrev aqb(K:Fg):List Addr->Hp->It->Itm->Prop:=λι H J it=>akp K ι H J it
abbrev SI:=Sd->Hd->R Itm
abbrev MI(X:Cx)(E:XD)(tg aF:Expr)(f:SI):Prop:=PI X tg aF (lift X.K E (aqb X.K) f)
def qx(x:Str):List D:=x.cps.toList.map λc=>D.str ⟨#[c]⟩
def adw(d:D)(h:Hd):R Itm:=match d with
 |.tup xs=>.ok ⟨xs,λ_=>True⟩ h
 |.rol xs=>.ok ⟨xs,λ_=>True⟩ h
 |.str x=>.ok ⟨qx x,λ_=>True⟩ h
 |.ref i=>match h[i]? with
  |some (.lst xs)=>.ok ⟨xs,λh=>h[i]? = some (.lst xs)⟩ h
  |_=>.no
 |_=>.no
def sIt(f:SE):SI:=λτ h=>(f τ h).bind adw
theorem afc(hl:∀ι H h,Gr ι0 H0 ι H->HRep K ι H h->ck h->∃vs,SqL K H a vs/\Reps K ι H vs xs):akp K ι0 H0 (Itl K a) ⟨xs,ck⟩:=by
 intro ι H h g hr c
 obtain⟨vs,h1,h2⟩:=hl ι H h g hr c;refine⟨λi d e=>?_,⟨vs,h1,by rw[h2.len];exact ai _⟩⟩
 obtain⟨v,e1,r⟩:=h2.get e;refine⟨⟨vs,v,h1,e1⟩,λx H' y=>?_⟩;obtain⟨rfl,y⟩:=y;have:=y vs h1;rw[e1]at this;cases this
 exact⟨.refl _ _,r,hr⟩
theorem a2n(hl:ME X E l f):MI X E tg l (sIt f):=by
 rintro aA s σ H Rr I ⟨ι,τ,h,S,Rh,o⟩
 unfold sIt at o
 cases hf:f τ h with
 |no=>rw[hf]at o;exact o.elim
 |ex c h1 =>
  rw[hf]at o;exact af4 hl aA s σ H Rr I ⟨ι,τ,h,S,Rh,by rw[hf];exact o⟩
 |ok d h1 =>
  rw[hf]at o
  cases d with
  |tup xs =>
   refine ajv hl aA s σ H Rr I ⟨ι,τ,h,S,Rh,?_⟩;rw[hf]
   intro ι1 H1 v g1 r1 hr1
   cases r1 with
   |@tup a vs _ e rs =>
    refine⟨a,rfl,⟨vs,SqT.of e⟩,o ι1 H1 _ g1 ?_ hr1⟩
    intro ι2 H2 h2 g2 hr2 _
    have e2:=g2.tup _ _ e;have rs2:=rs.mono g2;refine⟨λi d ed=>?_,⟨vs,SqT.of e2,by rw[rs2.len];exact ai _⟩⟩
    obtain⟨v,e1,r⟩:=rs2.get ed;refine⟨⟨vs,v,SqT.of e2,e1⟩,λx H' y=>?_⟩;obtain⟨rfl,y⟩:=y;have:=y vs (SqT.of e2);rw[e1]at this;cases this
    exact⟨.refl _ _,r,hr2⟩
  |rol xs =>
   refine a9v hl aA s σ H Rr I ⟨ι,τ,h,S,Rh,?_⟩;rw[hf]
   intro ι1 H1 v g1 r1 hr1
   cases r1 with
   |@rol a vs _ e rs =>
    refine⟨a,rfl,⟨vs,e.l⟩,o ι1 H1 _ g1 ?_ hr1⟩;exact afc (λι2 H2 h2 g2 hr2 _=>⟨vs,(e.mono g2).l,rs.mono g2⟩)
  |str x =>
   refine af4 hl aA s σ H Rr I ⟨ι,τ,h,S,Rh,?_⟩;rw[hf]
   intro ι1 H1 v g1 r1 hr1
   cases r1
   refine⟨x,rfl,o ι1 H1 _ g1 ?_ hr1⟩
   intro ι2 H2 h2 g2 hr2 _
   refine⟨λi d ed=>?_,by show(qx x).length=_;simp[qx]⟩
   simp only[qx,bM,aw]at ed;obtain⟨c,ec,rfl⟩:=ed;refine⟨by show i<x.cps.size;have:=(a7.mp ec).1;simpa using this,λy H' q=>?_⟩
   obtain⟨rfl,c',ec',rfl⟩:=q;rw[ec]at ec';cases ec'
   exact⟨.refl _ _,.str _,hr2⟩
  |ref i =>
   simp only[R.bind,adw]at o
   cases ho:h1[i]? with
   |none=>rw[ho]at o;exact o.elim
   |some ob =>
    rw[ho]at o
    cases ob with
    |dK _=>exact o.elim
    |dT _=>exact o.elim
    |ins _ _=>exact o.elim
    |dN _=>exact o.elim
    |lst xs =>
     refine a9v hl aA s σ H Rr I ⟨ι,τ,h,S,Rh,?_⟩;rw[hf]
     intro ι1 H1 v g1 r1 hr1
     cases r1 with
     |@ref a _ e =>
      obtain⟨vs,e1,rs⟩:=hr1.obj i a _ e ho;refine⟨a,rfl,⟨vs,SqL.of e1⟩,o ι1 H1 _ g1 ?_ hr1⟩;refine afc (λι2 H2 h2 g2 hr2 c=>?_);obtain⟨us,e3,rs3⟩:=hr2.obj i a _ (g2.at e) c;exact⟨us,SqL.of e3,rs3⟩
  |_=>exact o.elim
def rng(lo:Int)(n:Nat):List D:=(List.range n).map λi=>D.int (lo+(i:Nat))
def B62(j:Int):Prop := -(2^62)<=j/\j<2^62
instance (j:Int):Decidable (B62 j):=by unfold B62;exact inferInstance
def a0v(ds:List D)(h:Hd):R Itm:=match ds with
 |[.int j]=>if B62 j then .ok ⟨rng 0 j.toNat,λ_=>True⟩ h else .no
 |_=>.no
def ap2(ds:List D)(h:Hd):R Itm:=match ds with
 |[.int i,.int j]=>if B62 i/\B62 j then .ok ⟨rng i (j-i).toNat,λ_=>True⟩ h else .no
 |_=>.no
def sRg(g:List D->Hd->R Itm)(k:SA):SI:=λτ h=>(k τ h).bind g
theorem akq(lo:Int)(n:Nat):akp K ι0 H0 (Itr lo n) ⟨rng lo n,λ_=>True⟩:=by
 intro ι H h g hr _
 refine⟨λi d ed=>?_,by show n<=(rng lo n).length;simp[rng]⟩
 simp only[rng,bM,aw]at ed;obtain⟨j,ej,rfl⟩:=ed;obtain⟨hj,e⟩:=a7.mp ej;simp at e hj;subst e;refine⟨hj,λy H' q=>?_⟩;obtain⟨rfl,rfl⟩:=q;exact⟨.refl _ _,.int _,hr⟩
theorem a7c(hg:Gl X "range")(hm:X.mg "range" = none)(ha:MA X E [a] k)(hs:starEach [a] X.env=[(false,eval a X.env)]:=by rfl):MI X E tg (.Call (.Name "range" p) [a] [] pos) (sRg a0v k):=by
 rintro aA s σ H Rr I ⟨ι,τ,h,S,Rh,o⟩
 refine a9w hg hm ha hs aA s σ H Rr I ⟨ι,τ,h,S,Rh,bz o λds h1 ι1 H1 vs g1 r1 hr1 o1=>?_⟩;unfold a0v at o1
 split at o1
 ·rename_i j
  cases r1 with
  |cons r rs =>
   cases r;cases rs
   by_cases hb:B62 j
   ·rw[aJ hb]at o1;exact⟨j,rfl,hb.1,hb.2,o1 ι1 H1 _ (.refl _ _) (akq 0 j.toNat) hr1⟩
   ·rw[aY hb]at o1;exact o1.elim
 ·exact o1.elim
open Classical in
noncomputable def forL(ck:Hd->Prop)(g:SG)(b:SS):List D->Sd->Hd->Fl
 |[],τ,h=>if ck h then .nx τ h else .no
 | x::xs,τ,h=>if ck h then (match g x τ h with
   |.nx τ1 h1=>(match b τ1 h1 with
    |.nx τ2 h2=>forL ck g b xs τ2 h2
    |.ct τ2 h2=>forL ck g b xs τ2 h2
    |.bk τ2 h2=>.nx τ2 h2
    |r=>r)
   |_=>.no) else .no
noncomputable def afd(f:SI)(g:SG)(b:SS):SS:=λτ h=>(f τ h).fl λit h1=>forL it.ck g b it.xs τ h1
theorem ahk(ir:akp K ι0 H0 J it)(S:SRep K ι0 H0 σ0 τ0)(Rh:HRep K ι0 H0 h0)(o:acs K E ι0 H0 (forL it.ck g b it.xs τ0 h0) N) :
  ∃W:Nat->Nat->St->Hp->Prop,(∃m,W 0 m σ0 H0)/\∀i m σ H,W i m σ H->
   (J.stop i H/\N.nx σ H)\/(J.go i H/\∃M:St->Hp->Prop,(∀σ' H',M σ' H'->∃m',m'<m/\W (i+1) m' σ' H')/\∀x H',J.yld i H x H'->ahj K E g x σ H' λσ2 H2=>a4m K E b {N with nx:=M,ct:=M,bk:=N.nx} σ2 H2):=by
 refine⟨λi m σ H=>m=it.xs.length-i/\i<=it.xs.length/\∃ι τ h,Gr ι0 H0 ι H/\SRep K ι H σ τ/\HRep K ι H h/\acs K E ι H (forL it.ck g b (it.xs.drop i) τ h) N,⟨_,rfl,cf _,ι0,τ0,h0,.refl _ _,S,Rh,o⟩,?_⟩
 rintro i m σ H ⟨rfl,hi,ι,τ,h,g0,S,Rh,o⟩
 by_cases hlt:i<it.xs.length
 ·rw[ei hlt,forL]at o
  by_cases hc:it.ck h
  ·rw[aJ hc]at o;obtain⟨go,yl⟩:=(ir ι H h g0 Rh hc).1 i _ (ae hlt);refine .inr ⟨go,λσ' H'=>it.xs.length-(i+1)<it.xs.length-i/\∃ι τ h,Gr ι0 H0 ι H'/\SRep K ι H' σ' τ/\HRep K ι H' h/\acs K E ι H' (forL it.ck g b (it.xs.drop (i+1)) τ h) N,λσ' H' q=>⟨_,q.1,rfl,hlt,q.2⟩,λx H' y=>?_⟩;obtain⟨g1,r1,hr1⟩:=yl x H' y;refine⟨ι,τ,h,_,r1,S.mono g1,hr1,?_⟩;have o':=nu o g1
   cases hg:g it.xs[i] τ h with
   |nx τ1 h1 =>
    rw[hg]at o';dsimp only at o'
    intro ι2 H2 σ2 g2 S2 R2
    refine⟨ι2,τ1,h1,S2,R2,?_⟩;have o2:=nu o' g2;have gg:=(g0.trans g1).trans g2
    cases hb:b τ1 h1 with
    |nx τ2 h2=>rw[hb]at o2;exact λι3 H3 σ3 g3 S3 R3=>⟨by omega,ι3,τ2,h2,gg.trans g3,S3,R3,nu o2 g3⟩
    |ct τ2 h2=>rw[hb]at o2;exact λι3 H3 σ3 g3 S3 R3=>⟨by omega,ι3,τ2,h2,gg.trans g3,S3,R3,nu o2 g3⟩
    |bk τ2 h2=>rw[hb]at o2;exact o2
    |rt d h2=>rw[hb]at o2;exact o2
    |ex c h2=>rw[hb]at o2;exact o2
    |no=>rw[hb]at o2;exact o2.elim
   |_=>rw[hg]at o';exact o'.elim
  ·rw[aY hc]at o;exact o.elim
 ·have e:i=it.xs.length:=by omega
  subst e;rw[bD (ai _),forL]at o
  by_cases hc:it.ck h
  ·rw[aJ hc]at o;exact .inl ⟨(ir ι H h g0 Rh hc).2,o ι H σ (.refl _ _) S Rh⟩
  ·rw[aY hc]at o;exact o.elim
theorem a84{X:Cx}(hp:PassesOwn (model X.prog X.w) X.A X.env X.xe)(hc:X.calm=true)(hi:MI X E tg aF f)(hg:MG X E tg g)(hb:MSs X E body b)(hs:∀x,foldedSetIterable aF X.env x=pure x:=by intro _;rfl):MS X E (.For tg aF body [] pos) (afd f g b):=by
 refine PS.weak (ajw hp hc hi hg hb hs) ?_
 rintro N σ H ⟨ι,τ,h,S,Rh,o⟩
 exact⟨ι,τ,h,S,Rh,p8 o λit h1 ι1 H1 J g1 r1 hr1 o1=>ahk r1 (S.mono g1) hr1 o1⟩
end MI
namespace MI
open L2
open Classical in
noncomputable def mapR(ck:Hd->Prop)(f:D->Hd->R D):List D->Hd->R (List D)
 |[],h=>if ck h then .ok [] h else .no
 |x::xs,h=>if ck h then (f x h).bind λy h1=>(mapR ck f xs h1).bind λys h2=>.ok (y::ys) h2 else .no
def frs'(ix:List Nat)(τ:Sd):Sd:=ix.map λi=>(τ[i]?).join
def t1(d:D):Option Sd:=some [some d]
def tN(n:Nat)(d:D):Option Sd:=match d with|.tup ds=>if ds.length=n then some (ds.map some) else none|_=>none
def a3h(t:D->Option Sd)(fe:SE)(aG:Sd)(x:D)(h:Hd):R D:=match t x with|some ts=>fe (ts++aG) h|none=>.no
def ahl(yd zs:List D)(h:Hd):R D:=.ok (.ref h.length) (h++[.lst (yd++zs)])
theorem akr(r:R D)(m:Hd->R (List D))(yd:List D):(r.bind λy h1=>(m h1).bind λys h2=>.ok (y::ys) h2).bind (ahl yd)=r.bind λy h1=>(m h1).bind (ahl (yd++[y])):=by
 cases r with
 |ok y h1 =>
  show((m h1).bind _).bind _=(m h1).bind _
  cases m h1 with
  |ok ys h2=>simp[R.bind,ahl]
  |_=>rfl
 |_=>rfl
noncomputable def vg(fi:SI)(t:D->Option Sd)(fe:SE)(ix:List Nat):SE:=λτ h=>(fi τ h).bind λit h1=>if it.xs.length<=LINE then (mapR it.ck (a3h t fe (frs' ix τ)) it.xs h1).bind (ahl []) else .no
def aiz(K:Fg)(n:Nat)(g:TG)(t:D->Option Sd):Prop:=∀ι H v d ts (r:St) (Q:St->Hp->Prop),Rep K ι H v d->t d=some ts->(∀us:St,us.length=n->SRep K ι H us ts->Q (us++r) H)->g v (List.replicate n none++r) H Q
theorem a4r:SRep K ι H [] []:=⟨rfl,λi d e=>by simp at e⟩
theorem a0d(r:Rep K ι H v d)(s:SRep K ι H σ τ):SRep K ι H (some v::σ) (some d::τ):=by
 refine⟨by simp[s.len],λi d' e=>?_⟩
 cases i with
 |zero=>simp at e;subst e;exact⟨v,rfl,r⟩
 |succ i=>simpa using s.val i d' (by simpa using e)
theorem a85(s:SRep K ι H σ τ)(s':SRep K ι H σ' τ'):SRep K ι H (σ++σ') (τ++τ'):=by
 refine⟨by simp[s.len,s'.len],λi d e=>?_⟩
 by_cases hi:i<τ.length
 ·rw[aI hi]at e;rw[aI (by rw[s.len];exact hi)]
  exact s.val i d e
 ·rw[ar (by omega)]at e
  rw[ar (by rw[s.len];omega),s.len]
  exact s'.val _ d e
theorem a86(s:SRep K ι H σ τ)(ix:List Nat):SRep K ι H (ix.map λi=>(σ[i]?).join) (frs' ix τ):=by
 refine⟨by simp[frs'],λj d e=>?_⟩
 simp only[frs',bM,aw]at e;obtain⟨i,hi,e⟩:=e;have:τ[i]? = some (some d):=by
  cases q:τ[i]? with
  |none=>rw[q]at e;cases e
  |some o=>rw[q]at e;simp at e;rw[e]
 obtain⟨v,h1,h2⟩:=s.val i d this;exact⟨v,by simp[hi,h1],h2⟩
theorem a3v:aiz K 1 (a4d 0) t1:=λι H v d ts r Q hr e q=>by
 cases e
 exact q [some v] rfl (a0d hr a4r)
theorem aks{α:Type}{xs:List α}(h:xs.length=n+1):∃x ys,xs=x::ys:=by cases xs with|nil=>cases h|cons x ys=>exact⟨x,ys,rfl⟩
theorem afe{vs:List V}{d:D}{ds:List D}(r:Reps K ι H vs (d::ds)):∃v us,vs=v::us/\Rep K ι H v d/\Reps K ι H us ds:=by cases r with|cons r rs=>exact⟨_,_,rfl,r,rs⟩
theorem akt:aiz K 2 (L2.xu K 2 (ad4 (a4d 0) (ad4 (a4d 1) aq1))) (tN 2):=λι H v d ts r Q hr e q=>by
 unfold tN at e
 cases hr with
 |@tup a vs xs h rs =>
  simp only at e
  split at e
  ·rename_i hl;cases e
   obtain⟨x1,xs,rfl⟩:=aks hl;obtain⟨x2,xs,rfl⟩:=aks (eP hl);obtain rfl:=List.length_eq_zero_iff.mp (eP (eP hl));obtain⟨v1,vs,rfl,r1,rs⟩:=afe rs;obtain⟨v2,vs,rfl,r2,rs⟩:=afe rs;cases rs
   exact⟨a,_,rfl,SqT.of h,rfl,_,_,rfl,_,_,rfl,rfl,q [some _,some _] rfl (a0d r1 (a0d r2 a4r))⟩
  ·cases e
 |_=>cases e
theorem ahm{us:St}(h:us.length=n):L2.Ext (List.replicate n none++r) (us++r):=by
 refine⟨by simp[h],λi v e=>?_⟩
 by_cases hi:i<n
 ·rw[aI (by simpa using hi),cC,aJ hi]at e
  cases e
 ·rw[ar (by simpa using hi),cK]at e
  rw[ar (by omega),h]
  exact e
theorem a87(ir:akp K ι0 H0 J it)(tg:aiz K n g t)(S:SRep K ι0 H0 r rd)(Rh:HRep K ι0 H0 h0)(hl:it.xs.length<=LINE)
  (o:out K E (yj K) ι0 H0 ((mapR it.ck (a3h t fe rd) it.xs h0).bind (ahl [])) Q):ah9 J (List.replicate n none++r) g (lift K E (yj K) fe) Q H0:=by
 refine⟨λi m ys H=>m=it.xs.length-i/\i<=it.xs.length/\ys.length<=i/\∃ι h yd,Gr ι0 H0 ι H/\HRep K ι H h/\Reps K ι H ys yd/\out K E (yj K) ι H ((mapR it.ck (a3h t fe rd) (it.xs.drop i) h).bind (ahl yd)) Q,
  ⟨_,rfl,cf _,cf _,ι0,h0,[],.refl _ _,Rh,.nil,o⟩,?_⟩
 rintro i m ys H ⟨rfl,hi,hy,ι,h,yd,g0,Rh,ry,o⟩
 by_cases hlt:i<it.xs.length
 ·rw[ei hlt,mapR]at o
  by_cases hc:it.ck h
  ·rw[aJ hc,akr]at o;obtain⟨go,yl⟩:=(ir ι H h g0 Rh hc).1 i _ (ae hlt);refine .inr ⟨go,Nat.lt_of_le_of_lt hy (aN hlt (ll hl)),λx H' y=>?_⟩;obtain⟨g1,r1,hr1⟩:=yl x H' y;have o':=a80 o g1
   cases ht:t it.xs[i] with
   |none=>simp only[a3h,ht]at o';exact o'.elim
   |some ts =>
    simp only[a3h,ht]at o';refine tg ι H' x _ ts r _ r1 ht λus hus su=>⟨ahm hus,ι,ts++rd,h,a85 su (S.mono (g0.trans g1)),hr1,bz o' λd2 h2 ι2 H2 u g2 r2 hr2 o2=>?_⟩;refine⟨it.xs.length-(i+1),by omega,rfl,hlt,by simp;omega,ι2,h2,yd++[d2],(g0.trans g1).trans g2,hr2,((ry.mono g1).mono g2).snoc r2,o2⟩
  ·rw[aY hc]at o;exact o.elim
 ·have e:i=it.xs.length:=by omega
  subst e;rw[bD (ai _),mapR]at o
  by_cases hc:it.ck h
  ·rw[aJ hc]at o;refine .inl ⟨(ir ι H h g0 Rh hc).2,uf (E:=E) ry Rh ?_⟩;simpa[R.bind,ahl] using o
  ·rw[aY hc]at o;exact o.elim
section
variable{X:Cx}{E:XD}{aD tg aF cnd:Expr}{aB:Scope}{pos:Pos}{cl:List (Str×Addr)}{ts fr:List Str}{ix:List Nat}{fi:SI}{g:TG}{t:D->Option Sd}{fe:SE}{fc:ST}
theorem a0w(hc:X.calm=true)(S:CSc X aB cl ts fr ix)(hi:MI X E tg aF fi)(hg:∀C fp s H,PG (cxC X (ts++fr) aB cl C fp s H) tg g)(ht:aiz X.K ts.length g t)(he:∀C fp s H,ME (cxC X (ts++fr) aB cl C fp s H) E aD fe)
  (hs:∀x,foldedSetIterable aF X.env x=pure x:=by intro _;rfl):ME X E (.ListComp aD [⟨tg,aF,[],0⟩] aB pos) (vg fi t fe ix):=by
 refine PE.weak (adn (te:=lift X.K E (yj X.K) fe) hc S hi hg he hs) ?_
 rintro σ H Q ⟨ι,τ,h,Sr,Rh,o⟩
 refine⟨ι,τ,h,Sr,Rh,bz o λit h1 ι1 H1 J g1 r1 hr1 o1=>?_⟩
 by_cases hl:it.xs.length<=LINE
 ·rw[aJ hl]at o1;exact a87 r1 ht (a86 (Sr.mono g1) ix) hr1 hl o1
 ·rw[aY hl]at o1;exact o1.elim
end
mutual
def clo(n:Nat):D->Prop
 |.tup xs=>clos n xs
 |.rol xs=>clos n xs
 |.rod _ xs=>clos n xs
 |.scr xs=>clos n xs
 |.rdT _ xs=>clos n xs
 |.ins _ _ xs=>clos n xs
 |.ref i=>i<n
 |_=>True
def clos(n:Nat):List D->Prop
 |[]=>True
 |x::xs=>clo n x/\clos n xs
end
mutual
theorem Rep.clo:∀{v:V} {d:D},Rep K ι H v d->clo ι.length d
 |_,_,.non=>by simp[MI.clo]
 |_,_,.bl b=>by simp[MI.clo]
 |_,_,.int i=>by simp[MI.clo]
 |_,_,.str x=>by simp[MI.clo]
 |_,_,.ty n=>by simp[MI.clo]
 |_,_,.tup h r=>by simp only[MI.clo];exact Reps.clo r
 |_,_,.rol h r=>by simp only[MI.clo];exact Reps.clo r
 |_,_,.ref h=>by simp only[MI.clo];exact(a7.mp h).1
 |_,_,.rod h e r=>by simp only[MI.clo];exact Reps.clo r
 |_,_,.scr h r=>by simp only[MI.clo];exact Reps.clo r
 |_,_,.rdT h e r=>by simp only[MI.clo];exact Reps.clo r
 |_,_,.exc h hc hn=>by simp[MI.clo]
 |_,_,.ins h hn e r=>by simp only[MI.clo];exact Reps.clo r
theorem Reps.clo:∀{vs:List V} {ds:List D},Reps K ι H vs ds->clos ι.length ds
 |_,_,.nil=>by simp[MI.clos]
 |_,_,.cons r rs=>by simp only[MI.clos];exact⟨Rep.clo r,Reps.clo rs⟩
end
mutual
theorem Rep.cut:∀{v:V} {d:D},Rep K ι H v d->clo n d->Rep K (ι.take n) H v d
 |_,_,.non,_=>.non
 |_,_,.bl b,_=>.bl b
 |_,_,.int i,_=>.int i
 |_,_,.str x,_=>.str x
 |_,_,.ty n,_=>.ty n
 |_,_,.tup h r,c=>.tup h (Reps.cut r (by simpa only[MI.clo] using c))
 |_,_,.rol h r,c=>.rol h (Reps.cut r (by simpa only[MI.clo] using c))
 |_,_,.ref h,c=>.ref (by simp only[MI.clo]at c;rw[da,aJ c];exact h)
 |_,_,.rod h e r,c=>.rod h e (Reps.cut r (by simpa only[MI.clo] using c))
 |_,_,.scr h r,c=>.scr h (Reps.cut r (by simpa only[MI.clo] using c))
 |_,_,.rdT h e r,c=>.rdT h e (Reps.cut r (by simpa only[MI.clo] using c))
 |_,_,.exc h hc hn,_=>.exc h hc hn
 |_,_,.ins h hn e r,c=>.ins h hn e (Reps.cut r (by simpa only[MI.clo] using c))
theorem Reps.cut:∀{vs:List V} {ds:List D},Reps K ι H vs ds->clos n ds->Reps K (ι.take n) H vs ds
 |_,_,.nil,_=>.nil
 |_,_,.cons r rs,c=>by simp only[MI.clos]at c;exact .cons (Rep.cut r c.1) (Reps.cut rs c.2)
end
def v6(n:Nat):O->Prop
 |.lst xs=>clos n xs
 |.dK kvs=>clos n (kvs.map (·.2))
 |.dT kvs=>clos n (kvs.map (·.2))
 |.ins _ fs=>clos n (fs.map (·.2))
 |.dN kvs=>clos n (kvs.map (·.2))
def aku(n:Nat)(h:Hd):Prop:=∀o∈h,v6 n o
theorem ORep.clo(r:ORep K ι H a o):v6 ι.length o:=by
 cases o with
 |lst xs=>obtain⟨vs,_,r⟩:=r;exact r.clo
 |dK kvs=>obtain⟨us,_,_,r⟩:=r;exact r.clo
 |dT kvs=>obtain⟨us,_,_,r⟩:=r;exact r.clo
 |ins _ _=>obtain⟨_,_,us,_,_,_,r⟩:=r;exact r.clo
 |dN kvs=>obtain⟨us,_,_,r⟩:=r;exact r.clo
theorem ORep.cut(r:ORep K ι H a o)(c:v6 n o):ORep K (ι.take n) H a o:=by
 cases o with
 |lst xs=>obtain⟨vs,h,r⟩:=r;exact⟨vs,h,r.cut c⟩
 |dK kvs=>obtain⟨us,h,e,r⟩:=r;exact⟨us,h,e,r.cut c⟩
 |dT kvs=>obtain⟨us,h,e,r⟩:=r;exact⟨us,h,e,r.cut c⟩
 |ins _ _=>obtain⟨C,dx,us,h,hn,e,r⟩:=r;exact⟨C,dx,us,h,hn,e,r.cut c⟩
 |dN kvs=>obtain⟨us,h,e,r⟩:=r;exact⟨us,h,e,r.cut c⟩
theorem HRep.clo(r:HRep K ι H h):aku h.length h:=λo ho=>by
 obtain⟨i,hi⟩:=bB ho;obtain⟨a,_,q⟩:=r.addr hi;rw[<-r.len];exact q.clo
theorem HRep.cut(r:HRep K ι H (h++g))(c:aku h.length h):HRep K (ι.take h.length) H h:=by
 refine⟨r.nd.sublist (List.take_sublist _ _),?_,λi a o e1 e2=>?_⟩
 ·have:=r.len
  rw[a9]at this;rw[bE];omega
 ·have hi:i<h.length:=(a7.mp e2).1;rw[da,aJ hi]at e1;exact(r.obj i a o e1 (by rw[aI hi];exact e2)).cut (c o (aZ e2))
def X0:XD:=λ_ _ _ _=>False
abbrev SF:=List D->Hd->R D
def jx(K:Fg)(n:Nat)(F:SF):Sp:=λvs H Q _=>vs.length=n/\∃ι ds h,Reps K ι H vs ds/\HRep K ι H h/\out K X0 (yj K) ι H (F ds h) Q
def a0e(n:Nat)(ds:List D):Sd:=ds.map some++List.replicate (n-ds.length) none
def jr(b:SS)(n:Nat)(ds:List D)(h:Hd):R D:=match b (a0e n ds) h with
 |.rt d h1=>.ok d h1
 |.nx _ h1=>.ok .non h1
 |.ex c h1=>.ex c h1
 |_=>.no
def Rf(n:Nat)(r' r:R D):Prop:=match r with
 |.no=>True
 |.ok d h1=>∃g,r'=.ok d (h1++g)/\(g=[]\/(n<=h1.length/\clo h1.length d/\aku h1.length h1))
 |.ex c h1=>∃g,r'=.ex c (h1++g)/\(g=[]\/(n<=h1.length/\aku h1.length h1))
theorem Rf.same(h:r'=r):Rf n r' r:=by
 subst h
 cases r' with
 |ok d h1=>exact⟨[],by simp,.inl rfl⟩
 |ex c h1=>exact⟨[],by simp,.inl rfl⟩
 |no=>exact True.intro
theorem a9b(r:Reps K ι H vs ds):SRep K ι H (start N vs) (a0e N.length ds):=by
 refine a85 ?_ ?_
 ·clear N
  induction r using Reps.rec (motive_1:=λ_ _ _=>True) with
  |nil=>exact a4r
  |cons r rs _ ih=>exact a0d r ih
  |_=>trivial
 ·rw[r.len];exact⟨by simp,λi d e=>by rw[cC]at e;split at e<;>cases e⟩
theorem afg(g:Gr ι H ι' H')(hn:ι.length<=n):Gr ι H (ι'.take n) H':=by
 obtain⟨m,rfl,hm⟩:=g.pre;exact⟨⟨m.take (n-ι.length),by rw[List.take_append,bC hn],λa ha=>hm a (List.mem_of_mem_take ha)⟩,g.tup,g.frz,g.oth,g.kp⟩
section
variable{P:Program}{w:World}{K:Fg}{mg:Str->Option Value}{base:Heap}
theorem akv(Fu:Fun K x qual st f fd)(S:FnScope N ps (bh st))
  (hb:∀(cdv:Value) (A:Around) (outer:List Env) (s:Shared) (H:Hp) (E:XK),Room k (A.deeper (PyProof.Rows.envOfC qual (bh st) s.heap.objs.size f cdv))->MSs (acr CX0 P w K mg base N qual (bh st) f cdv A outer s H E).nox X0 (qz st) b)
  (hF:∀ds h,ds.length=ps.length->clos h.length ds->aku h.length h->Rf h.length (jr b N.length ds h) (F ds h)):FnOk P w K mg base CX0 (k+1) f fd ps (jx K ps.length F):=by
 refine Fu.ok S (λvs H Q E h=>h.1) λcdv A outer s H vs Q E hr h=>⟨_,hb cdv A outer s H E hr,?_⟩;obtain⟨hl,ι,ds,h,r,hr',o⟩:=h;refine⟨ι,a0e N.length ds,h,a9b r,hr',?_⟩;have q:=hF ds h (by rw[<-r.len];exact hl) (by rw[<-hr'.len];exact r.clo) hr'.clo
 unfold jr at q
 cases hFd:F ds h with
 |no=>rw[hFd]at o;exact o.elim
 |ex c h1 =>
  rw[hFd]at q o;obtain⟨g,e,cl⟩:=q;have fin:∀ι' H',Gr ι H ι' H'->HRep K ι' H' (h1++g)->X0 c ι' H' (h1++g):=λι' H' g1 hr1=>by
   rcases cl with rfl|⟨hn,c2⟩
   ·rw[bp]at hr1;exact o ι' H' g1 hr1
   ·exact o (ι'.take h1.length) H' (afg g1 (by rw[hr'.len];exact hn)) (hr1.cut c2)
  cases hbd:b (a0e N.length ds) h with
  |ex c' h' =>
   rw[hbd]at e
   injection e with e1 e2
   subst e1 e2;exact fin
  |_=>rw[hbd]at e;cases e
 |ok d h1 =>
  rw[hFd]at q o;obtain⟨g,e,cl⟩:=q;have fin:∀ι' H' v,Gr ι H ι' H'->Rep K ι' H' v d->HRep K ι' H' (h1++g)->Q v H':=λι' H' v g1 r1 hr1=>by
   rcases cl with rfl|⟨hn,c1,c2⟩
   ·rw[bp]at hr1;exact o ι' H' v g1 r1 hr1
   ·exact o (ι'.take h1.length) H' v (afg g1 (by rw[hr'.len];exact hn)) (r1.cut c1) (hr1.cut c2)
  cases hbd:b (a0e N.length ds) h with
  |rt d' h' =>
   rw[hbd]at e
   injection e with e1 e2
   subst e1 e2;exact fin
  |nx τ' h' =>
   rw[hbd]at e
   injection e with e1 e2
   subst e1 e2;exact λι' H' σ' g1 S1 hr1=>fin ι' H' .non g1 .non hr1
  |_=>rw[hbd]at e;cases e
end
section
variable{K:Fg}{E:XD}{ι:List Addr}{H:Hp}{h:Hd}{Q:VK}
theorem ans(o:out K E (yj K) ι H (.ok d h) Q)(r:Rep K ι H v d)(hr:HRep K ι H h):Q v H:=o ι H v (.refl _ _) r hr
theorem HRep.lst(hr:HRep K ι H h){i:Nat}{a:Addr}{xs:List D}(e:ι[i]? = some a)(hi:h[i]? = some (.lst xs)):∃vs,H a=some (.lst vs)/\Reps K ι H vs xs:=hr.obj i a _ e hi
end
def a6z:D->D->Hd->R D
 |.int i,.int j,h=>.ok (.int (i-j)) h
 |_,_,_=>.no
def acw:D->D->Hd->R D
 |.int i,.int j,h=>if 0<j then .ok (.int (i%j)) h else .no
 |_,_,_=>.no
def afh:D->D->Hd->R D
 |.int i,.int j,h=>if 0<j/\j<1073741824 then .ok (.int (i / j)) h else .no
 |_,_,_=>.no
def aav:D->D->Hd->R D
 |.int i,.int j,h=>if 0<=j/\j<=1000000/\i.natAbs<2^64 then .ok (.int (i^j.toNat)) h else .no
 |_,_,_=>.no
section
variable{X:Cx}{K:Fg}
theorem aaw:zm K a6z (rI0 λi j=>.int (i-j)):=by
 intro E ι H h x y dx dy Q rx ry hr o
 cases rx with
 |int i =>
  cases ry with
  |int j=>exact⟨i,j,rfl,rfl,ans o (.int _) hr⟩
  |_=>exact o.elim
 |_=>exact o.elim
theorem ahn:zm K acw (rI (λ_ j=>0<j) λi j=>.int (i%j)):=by
 intro E ι H h x y dx dy Q rx ry hr o
 cases rx with
 |int i =>
  cases ry with
  |int j =>
   by_cases hc:0<j
   ·simp only[acw,aJ hc]at o;exact⟨i,j,rfl,rfl,hc,ans o (.int _) hr⟩
   ·simp only[acw,aY hc]at o;exact o.elim
  |_=>exact o.elim
 |_=>exact o.elim
theorem aho:zm K afh (rI aq3 λi j=>.int (i / j)):=by
 intro E ι H h x y dx dy Q rx ry hr o
 cases rx with
 |int i =>
  cases ry with
  |int j =>
   by_cases hc:0<j/\j<1073741824
   ·simp only[afh,aJ hc]at o;exact⟨i,j,rfl,rfl,hc,ans o (.int _) hr⟩
   ·simp only[afh,aY hc]at o;exact o.elim
  |_=>exact o.elim
 |_=>exact o.elim
theorem ahp:zm K aav (rI aq4 λi j=>.int (i^j.toNat)):=by
 intro E ι H h x y dx dy Q rx ry hr o
 cases rx with
 |int i =>
  cases ry with
  |int j =>
   by_cases hc:0<=j/\j<=1000000/\i.natAbs<2^64
   ·simp only[aav,aJ hc]at o;exact⟨i,j,rfl,rfl,hc,ans o (.int _) hr⟩
   ·simp only[aav,aY hc]at o;exact o.elim
  |_=>exact o.elim
 |_=>exact o.elim
variable{E:XD}{a b e:Expr}{es:List Expr}{fa fb:SE}{ka:SA}{pos:Pos}
theorem a3w(ha:ME X E a fa)(hb:ME X E b fb):ME X E (.BinOp a .Sub b pos) (s2 a6z fa fb):=a98 ajy aaw ha hb
theorem a88(ha:ME X E a fa)(hb:ME X E b fb):ME X E (.BinOp a .Mod b pos) (s2 acw fa fb):=a98 ak0 ahn ha hb
theorem afi(ha:ME X E a fa)(hb:ME X E b fb):ME X E (.BinOp a .FloorDiv b pos) (s2 afh fa fb):=a98 ags aho ha hb
theorem afj(ha:ME X E a fa)(hb:ME X E b fb):ME X E (.BinOp a .Pow b pos) (s2 aav fa fb):=a98 ak1 ahp ha hb
def aqc:D->Hd->R D
 |.int i,h=>.ok (.int (-i)) h
 |_,_=>.no
def gLt:D->D->Hd->R D
 |.int i,.int j,h=>.ok (.bl (decide (i<j))) h
 |.str i,.str j,h=>.ok (.bl (decide (i.cps.toList<j.cps.toList))) h
 |_,_,_=>.no
def gLe:D->D->Hd->R D
 |.int i,.int j,h=>.ok (.bl (decide (i<=j))) h
 |.str i,.str j,h=>.ok (.bl (!decide (j.cps.toList<i.cps.toList))) h
 |_,_,_=>.no
def gGt:D->D->Hd->R D
 |.int i,.int j,h=>.ok (.bl (decide (j<i))) h
 |_,_,_=>.no
def gGe:D->D->Hd->R D
 |.int i,.int j,h=>.ok (.bl (decide (j<=i))) h
 |_,_,_=>.no
theorem a2o:zm K gLt (λx y H Q=>rI0 (λi j=>.bl (decide (i<j))) x y H Q\/∃i j,x=.str i/\y=.str j/\Q (.bl (decide (i.cps.toList<j.cps.toList))) H):=by
 intro E ι H h x y dx dy Q rx ry hr o
 cases rx with
 |int i =>
  cases ry with
  |int j=>exact .inl ⟨i,j,rfl,rfl,ans o (.bl _) hr⟩
  |_=>exact o.elim
 |str i =>
  cases ry with
  |str j=>exact .inr ⟨i,j,rfl,rfl,ans o (.bl _) hr⟩
  |_=>exact o.elim
 |_=>exact o.elim
theorem a1h:zm K gLe (λx y H Q=>rI0 (λi j=>.bl (decide (i<=j))) x y H Q\/∃i j,x=.str i/\y=.str j/\Q (.bl (!decide (j.cps.toList<i.cps.toList))) H):=by
 intro E ι H h x y dx dy Q rx ry hr o
 cases rx with
 |int i =>
  cases ry with
  |int j=>exact .inl ⟨i,j,rfl,rfl,ans o (.bl _) hr⟩
  |_=>exact o.elim
 |str i =>
  cases ry with
  |str j=>exact .inr ⟨i,j,rfl,rfl,ans o (.bl _) hr⟩
  |_=>exact o.elim
 |_=>exact o.elim
theorem aax:zm K gGt (rI0 λi j=>.bl (decide (j<i))):=by
 intro E ι H h x y dx dy Q rx ry hr o
 cases rx with
 |int i =>
  cases ry with
  |int j=>exact⟨i,j,rfl,rfl,ans o (.bl _) hr⟩
  |_=>exact o.elim
 |_=>exact o.elim
theorem akx:zm K gGe (rI0 λi j=>.bl (decide (j<=i))):=by
 intro E ι H h x y dx dy Q rx ry hr o
 cases rx with
 |int i =>
  cases ry with
  |int j=>exact⟨i,j,rfl,rfl,ans o (.bl _) hr⟩
  |_=>exact o.elim
 |_=>exact o.elim
def a3i:D->Bool
 |.non=>true
 |_=>false
theorem ahq(r:Rep K ι H x .non):x=.non:=by cases r;rfl
theorem afk{b:Bool}(r:Rep K ι H x (.bl b)):x=.bl b:=by cases r;rfl
theorem aay{i:Int}(r:Rep K ι H x (.int i)):x=.int i:=by cases r;rfl
theorem adx(r:Rep K ι H x d):decide (x=.non)=a3i d:=by cases r<;>simp[a3i]
def gIs(x y:D)(h:Hd):R D:=match y with
 |.non=>.ok (.bl (a3i x)) h
 |.bl j=>(match x with|.bl i=>.ok (.bl (i == j)) h|_=>.no)
 |_=>.no
def afl(x y:D)(h:Hd):R D:=match y with
 |.non=>.ok (.bl (!a3i x)) h
 |.bl j=>(match x with|.bl i=>.ok (.bl (i != j)) h|_=>.no)
 |_=>.no
theorem a6e:zm K gIs (λx y H Q=>(y=.non/\Q (.bl (decide (x=.non))) H)\/∃i j,x=.bl i/\y=.bl j/\Q (.bl (i == j)) H):=by
 intro E ι H h x y dx dy Q rx ry hr o
 cases dy with
 |non=>exact .inl ⟨ahq ry,by rw[adx rx];exact ans o (.bl _) hr⟩
 |bl j =>
  cases dx with
  |bl i=>exact .inr ⟨i,j,afk rx,afk ry,ans o (.bl _) hr⟩
  |_=>exact o.elim
 |_=>exact o.elim
def vh:D->Bool
 |.non=>true|.bl _=>true|.int _=>true|.str _=>true
 |_=>false
def fvD:D->Option V
 |.non=>some .non|.bl b=>some (.bl b)|.int i=>some (.int i)|.str x=>some (.str x)
 |_=>none
theorem ady{d:D}(r:Rep K ι H x d)(f:vh d=true):fvD d=some x:=by
 cases r<;>first|rfl|(cases f;done)
theorem fvs{d e:D}{P:D->V->D->V->Prop}(h:∀d x e y,fvD d=some x->fvD e=some y->P d x e y)(r:Rep K ι H x d)(q:Rep K ι H y e)(f:vh d=true)(g:vh e=true):P d x e y:=h d x e y (ady r f) (ady q g)
def eqF:D->D->Bool
 |.non,.non=>true
 |.bl i,.bl j=>i == j
 |.int i,.int j=>i == j
 |.str i,.str j=>i == j
 |.int i,.bl j=>i == (if j then 1 else 0)
 |.bl i,.int j=>(if i then 1 else 0) == j
 |_,_=>false
end
section
variable{X:Cx}{K:Fg}{E:XD}{a b e o:Expr}{es:List Expr}{fa fb:SE}{ka:SA}{pos:Pos}
def uv(d:D)(h:Hd):Option (List D):=match d with
 |.tup xs=>some xs
 |.rol xs=>some xs
 |.ref i=>match h[i]? with|some (.lst xs)=>some xs|_=>none
 |_=>none
def gIx(x y:D)(h:Hd):R D:=match y with
 |.int i=>(match x with
  |.str z=>if z.length<=LINE then (match atI z.cps.toList i with|some c=>.ok (.str ⟨#[c]⟩) h|none=>.no) else .no
  |x=>match uv x h with
   |some xs=>(match atI xs i with|some d=>.ok d h|none=>.no)
   |none=>.no)
 |_=>.no
theorem a89(r:Reps K ι H vs xs)(e:atI xs i=some d):∃v,atI vs i=some v/\Rep K ι H v d:=by
 unfold atI at e ⊢;rw[r.len]
 cases hx:ixN xs.length i with
 |none=>rw[hx]at e;cases e
 |some j=>rw[hx]at e;exact r.get e
theorem aky:zm K gIx (rIx K):=by
 intro E ι H h x y dx dy Q rx ry hr o
 cases ry with
 |int i =>
  have go:∀{p:Addr} {vs:List V} {xs:List D},Reps K ι H vs xs->out K E (yj K) ι H (match atI xs i with|some d=>.ok d h|none=>.no) Q->∃v,atI vs i=some v/\Q v H:=λ{p vs xs} r o=>by
   cases he:atI xs i with
   |none=>rw[he]at o;exact o.elim
   |some d =>
    rw[he]at o;obtain⟨v,h1,h2⟩:=a89 r he;exact⟨v,h1,ans o h2 hr⟩
  cases rx with
  |str z =>
   by_cases hc:z.length<=LINE
   ·simp only[gIx,aJ hc]at o
    cases he:atI z.cps.toList i with
    |none=>rw[he]at o;exact o.elim
    |some c=>rw[he]at o;exact .inr (.inr ⟨z,i,c,rfl,rfl,ll hc,he,ans o (.str _) hr⟩)
   ·simp only[gIx,aY hc]at o;exact o.elim
  |@tup p vs xs hp r =>
   simp only[gIx,uv]at o;obtain⟨v,h1,h2⟩:=go (p:=p) r o;exact .inr (.inl ⟨p,vs,i,v,rfl,rfl,SqT.of hp,h1,h2⟩)
  |@rol p vs xs hp r =>
   simp only[gIx,uv]at o;obtain⟨v,h1,h2⟩:=go (p:=p) r o;exact .inl ⟨p,vs,i,v,rfl,rfl,hp.l,h1,h2⟩
  |@ref p j hp =>
   obtain⟨ob,e1,e2⟩:=hr.at hp
   cases ob with
   |lst xs =>
    simp only[gIx,uv,e1]at o;obtain⟨vs,h3,h4⟩:=e2;obtain⟨v,h1,h2⟩:=go (p:=p) h4 o;exact .inl ⟨p,vs,i,v,rfl,rfl,SqL.of h3,h1,h2⟩
   |dK _=>simp only[gIx,uv,e1]at o;exact o.elim
   |dT _=>simp only[gIx,uv,e1]at o;exact o.elim
   |ins _ _=>simp only[gIx,uv,e1]at o;exact o.elim
   |dN _=>simp only[gIx,uv,e1]at o;exact o.elim
  |_=>exact o.elim
 |_=>exact o.elim
theorem ahr(ha:ME X E a fa)(hb:ME X E b fb)(hp:a4i b):ME X E (.Subscript a b pos) (s2 gIx fa fb):=ap1 ak9 aky ha hb hp
abbrev SO:=Sd->Hd->R (Option Int)
abbrev MO(X:Cx)(E:XD)(e:Option Expr)(f:SO):Prop:=PO X e (lift X.K E as3 f)
def oN:SO:=λ_ h=>.ok none h
def oS(f:SE):SO:=λτ h=>(f τ h).bind λd h1=>match d with|.int i=>.ok (some i) h1|_=>.no
theorem PO.weak{e:Option Expr}{t t':St->Hp->(Option Int->Hp->Prop)->Prop}(h:PO X e t)(i:∀σ H Q,t' σ H Q->t σ H Q):PO X e t':=λaA s σ H Q I q=>h aA s σ H Q I (i _ _ _ q)
theorem a4s:MO X E none oN:=PO.weak ah1 λσ H Q ⟨ι,τ,h,S,Rh,o⟩=>o ι H none (.refl _ _) rfl Rh
theorem jf(he:ME X E e fa):MO X E (some e) (oS fa):=by
 refine PO.weak (ah2 he) ?_
 rintro σ H Q ⟨ι,τ,h,S,Rh,o⟩
 refine⟨ι,τ,h,S,Rh,bz o λd h1 ι1 H1 v g1 r1 hr1 o1=>?_⟩
 cases r1 with
 |int i=>exact⟨i,rfl,o1 ι1 H1 _ (.refl _ _) rfl hr1⟩
 |_=>exact o1.elim
def whole(n:Nat)(lo hi:Option Int):Prop:=HT.sIx n 0 lo=0/\HT.sIx n n hi=n
instance (n:Nat) (lo hi:Option Int):Decidable (whole n lo hi):=by unfold whole;exact inferInstance
def gSl(d:D)(lo hi:Option Int)(h:Hd):R D:=match d with
 |.str z=>if z.length<=LINE then .ok (.str ⟨(a3f z.cps.toList lo hi).toArray⟩) h else .no
 |.tup xs=>if ¬ whole xs.length lo hi then .ok (.tup (a3f xs lo hi)) h else .no
 |.rol xs=>.ok (.ref h.length) (h++[.lst (a3f xs lo hi)])
 |.scr xs=>.ok (.ref h.length) (h++[.lst (a3f xs lo hi)])
 |.ref i=>match h[i]? with|some (.lst xs)=>.ok (.ref h.length) (h++[.lst (a3f xs lo hi)])|_=>.no
 |_=>.no
theorem a0f(r:Reps K ι H vs xs)(lo hi:Option Int):Reps K ι H (af0 vs lo hi) (a3f xs lo hi):=by
 unfold af0 a3f;rw[r.len];exact(r.drop _).take _
theorem a8a(rx:Rep K ι H x d)(hr:HRep K ι H h)(o:out K E (yj K) ι H (gSl d lo hi h) Q):aov x lo hi H Q\/aoq K x lo hi H Q\/aos K x lo hi H Q:=by
 cases rx with
 |str z =>
  by_cases hc:z.length<=LINE
  ·simp only[gSl,aJ hc]at o;exact .inl ⟨z,rfl,ll hc,ans o (.str _) hr⟩
  ·simp only[gSl,aY hc]at o;exact o.elim
 |@tup p vs xs hp r =>
  by_cases hc:¬ whole xs.length lo hi
  ·simp only[gSl,aJ hc]at o;exact .inr (.inl ⟨p,vs,rfl,SqT.of hp,by rw[r.len];exact hc,a02 (a0f r lo hi) hr o⟩)
  ·simp only[gSl,aY hc]at o;exact o.elim
 |@rol p vs xs hp r=>exact .inr (.inr ⟨p,vs,rfl,hp.l,uf (a0f r lo hi) hr o⟩)
 |@scr p vs xs hp r=>exact .inr (.inr ⟨p,vs,rfl,hp.l,uf (a0f r lo hi) hr o⟩)
 |@ref p j hp =>
  obtain⟨ob,e1,e2⟩:=hr.at hp
  cases ob with
  |lst xs =>
   simp only[gSl,e1]at o;obtain⟨vs,h3,h4⟩:=e2;exact .inr (.inr ⟨p,vs,rfl,SqL.of h3,uf (a0f h4 lo hi) hr o⟩)
  |dK _=>simp only[gSl,e1]at o;exact o.elim
  |dT _=>simp only[gSl,e1]at o;exact o.elim
  |ins _ _=>simp only[gSl,e1]at o;exact o.elim
  |dN _=>simp only[gSl,e1]at o;exact o.elim
 |_=>exact o.elim
theorem aaz(r:Rep K ι H x d)(f:vh d=true):zy x=true:=by cases r<;>first|rfl|cases f
theorem akz(r:Rep K ι H x d)(q:Rep K ι H y c):vh d=true->vh c=true->eqV x y=eqF d c:=λf g=>by
 refine fvs (P:=λd x c y=>eqV x y=eqF d c) (λd x e y h h'=>?_) r q f g
 cases d<;>first|(cases h;done)|(cases h;cases e<;>first|(cases h';done)|(cases h';rfl))
def inD(x:D)(xs:List D):Bool:=xs.any λy=>eqF y x
theorem adz(r:Reps K ι H vs xs)(f:xs.all vh=true):vs.all zy=true:=by
 induction r using Reps.rec (motive_1:=λ_ _ _=>True) with
 |nil=>rfl
 |cons r rs _ ih =>
  rw[cR,bI]at f ⊢;exact⟨aaz r f.1,ih f.2⟩
 |_=>trivial
theorem al0(rx:Rep K ι H x d)(fx:vh d=true)(r:Reps K ι H vs xs)(f:xs.all vh=true):inV x vs=inD d xs:=by
 unfold inV inD
 induction r using Reps.rec (motive_1:=λ_ _ _=>True) with
 |nil=>rfl
 |cons r rs _ ih =>
  rw[cR,bI]at f;rw[dI,dI,ih f.2,akz r rx f.1 fx]
 |_=>trivial
def gIn(neg:Bool)(x y:D)(h:Hd):R D:=match y with
 |.str T=>(match x with
  |.str z=>(match z.cps.toList with|[c]=>.ok (.bl (if neg then !decide (c∈T.cps.toList) else decide (c∈T.cps.toList))) h|_=>.no)
  |_=>.no)
 |y=>match uv y h with
  |some xs=>if vh x=true/\xs.all vh=true then .ok (.bl (if neg then !inD x xs else inD x xs)) h else .no
  |none=>.no
theorem one_sign{z:Str}(h:z.cps.toList=[c]):z=⟨#[c]⟩:=by
 obtain⟨cps⟩:=z
 congr
 exact Array.ext' (by simpa using h)
theorem afm(neg:Bool){r1:R2}(h1:∀c T H (Q:VK),Q (.bl (if neg then !decide (c∈T.cps.toList) else decide (c∈T.cps.toList))) H->r1 (.str ⟨#[c]⟩) (.str T) H Q):zm K (gIn neg) (λx y H Q=>r1 x y H Q\/rIn K neg x y H Q):=by
 intro E ι H h x y dx dy Q rx ry hr o
 have go:∀{p:Addr} {vs:List V} {xs:List D},(SqL K H p vs\/SqT K H p vs)->Reps K ι H vs xs->out K E (yj K) ι H (if vh dx=true/\xs.all vh=true then .ok (.bl (if neg then !inD dx xs else inD dx xs)) h else .no) Q->rIn K neg x (.ref p) H Q:=λ{p vs xs} sq r o=>by
  split at o
  ·rename_i hc;exact⟨p,vs,rfl,sq,aaz rx hc.1,adz r hc.2,by rw[al0 rx hc.1 r hc.2];exact ans o (.bl _) hr⟩
  ·exact o.elim
 cases ry with
 |str T =>
  cases rx with
  |str z =>
   simp only[gIn]at o
   split at o
   ·rename_i c hz;rw[one_sign hz];exact .inl (h1 c T H Q (ans o (.bl _) hr))
   ·exact o.elim
  |_=>exact o.elim
 |@tup p vs xs hp r=>simp only[gIn,uv]at o;exact .inr (go (.inr (SqT.of hp)) r o)
 |@rol p vs xs hp r=>simp only[gIn,uv]at o;exact .inr (go (.inl hp.l) r o)
 |@ref p j hp =>
  obtain⟨ob,e1,e2⟩:=hr.at hp
  cases ob with
  |lst xs =>
   simp only[gIn,uv,e1]at o;obtain⟨vs,h3,h4⟩:=e2;exact .inr (go (.inl (SqL.of h3)) h4 o)
  |dK _=>simp only[gIn,uv,e1]at o;exact o.elim
  |dT _=>simp only[gIn,uv,e1]at o;exact o.elim
  |ins _ _=>simp only[gIn,uv,e1]at o;exact o.elim
  |dN _=>simp only[gIn,uv,e1]at o;exact o.elim
 |_=>exact o.elim
theorem ahs:zm K (gIn false) (λx y H Q=>(∃c T,x=.str ⟨#[c]⟩/\y=.str T/\Q (.bl (decide (c∈T.cps.toList))) H)\/rIn K false x y H Q):=afm false λc T H Q q=>⟨c,T,rfl,rfl,q⟩
theorem ab0:zm K (gIn true) (λx y H Q=>(∃c T,x=.str ⟨#[c]⟩/\y=.str T/\Q (.bl (!decide (c∈T.cps.toList))) H)\/rIn K true x y H Q):=afm true λc T H Q q=>⟨c,T,rfl,rfl,q⟩
def wg:List D->Hd->R D
 |[.str z],h=>if z.length<=LINE then .ok (.int z.length) h else .no
 |[x],h=>(match uv x h with|some xs=>.ok (.int xs.length) h|none=>.no)
 |_,_=>.no
theorem aht:a9n K wg (λxs H Q=>(∃p ys,xs=[.ref p]/\(SqL K H p ys\/SqT K H p ys)/\Q (.int ys.length) H)\/∃z,xs=[.str z]/\z.length<=sizeLine/\Q (.int z.length) H):=by
 intro E ι H h xs ds Q r hr o
 cases r with
 |nil=>exact o.elim
 |cons r rs =>
  cases rs with
  |cons _ _=>exact(show False by cases r<;>exact o).elim
  |nil =>
   cases r with
   |str z =>
    by_cases hc:z.length<=LINE
    ·simp only[wg,aJ hc]at o;exact .inr ⟨z,rfl,ll hc,ans o (.int _) hr⟩
    ·simp only[wg,aY hc]at o;exact o.elim
   |@tup p vs xs hp r=>simp only[wg,uv]at o;exact .inl ⟨p,vs,rfl,.inr (SqT.of hp),by rw[r.len];exact ans o (.int _) hr⟩
   |@rol p vs xs hp r=>simp only[wg,uv]at o;exact .inl ⟨p,vs,rfl,.inl hp.l,by rw[r.len];exact ans o (.int _) hr⟩
   |@ref p j hp =>
    obtain⟨ob,e1,e2⟩:=hr.at hp
    cases ob with
    |lst xs =>
     simp only[wg,uv,e1]at o;obtain⟨vs,h3,h4⟩:=e2;exact .inl ⟨p,vs,rfl,.inl (SqL.of h3),by rw[h4.len];exact ans o (.int _) hr⟩
    |dK _=>simp only[wg,uv,e1]at o;exact o.elim
    |dT _=>simp only[wg,uv,e1]at o;exact o.elim
    |ins _ _=>simp only[wg,uv,e1]at o;exact o.elim
    |dN _=>simp only[wg,uv,e1]at o;exact o.elim
   |_=>exact o.elim
def al1:List D->Hd->R D
 |[.int i],h=>.ok (.int (if i<0 then -i else i)) h
 |_,_=>.no
theorem ab1:a9n K al1 (λxs H Q=>∃i,xs=[.int i]/\Q (.int (if i<0 then -i else i)) H):=by
 intro E ι H h xs ds Q r hr o
 unfold al1 at o
 split at o
 ·cases r with|cons r rs=>cases r;cases rs;exact⟨_,rfl,ans o (.int _) hr⟩
 ·exact o.elim
def al2:List D->Hd->R D
 |[.int i,.int j],h=>.ok (.int (if j > i then j else i)) h
 |_,_=>.no
def a7d:List D->Hd->R D
 |[.int i,.int j],h=>.ok (.int (if j<i then j else i)) h
 |_,_=>.no
theorem ae0:a9n K a7d (λxs H Q=>∃i j,xs=[.int i,.int j]/\Q (.int (if j<i then j else i)) H):=by
 intro E ι H h xs ds Q r hr o
 unfold a7d at o
 split at o
 ·cases r with|cons r rs=>cases rs with|cons q rs=>cases r;cases q;cases rs;exact⟨_,_,rfl,ans o (.int _) hr⟩
 ·exact o.elim
def aqd:List D->Hd->R D
 |[.int i],h=>.ok (.int i) h
 |[.bl k],h=>.ok (.int (if k then 1 else 0)) h
 |_,_=>.no
def al3:List D->Hd->R D
 |[.str x],h=>if x.length=1 then .ok (.int (x.cps.getD 0 0:Nat)) h else .no
 |_,_=>.no
theorem ahu:a9n K al3 (λxs H Q=>∃x,xs=[.str x]/\x.length=1/\Q (.int (x.cps.getD 0 0:Nat)) H):=by
 intro E ι H h xs ds Q r hr o
 unfold al3 at o
 split at o
 ·split at o
  ·rename_i hc
   cases r with|cons r rs=>cases r;cases rs;exact⟨_,rfl,hc,ans o (.int _) hr⟩
  ·exact o.elim
 ·exact o.elim
def tyD(d:D)(h:Hd):Option String:=match d with
 |.non=>some "NoneType" |.bl _=>some "bool" |.int _=>some "int" |.str _=>some "str" |.tup _=>some "tuple" |.rol _=>some "list"
 |.ref i=>(match h[i]? with|some (.lst _)=>some "list" |some (.dK _)=>some "dict" |_=>none)
 |_=>none
def a4t(t T:String):Option Bool :=
 if t∈["NoneType","bool","int","str","tuple","list","dict"]/\T∈["bool","int","str","tuple","list","dict"] then some (t == T || (t == "bool" && T == "int")) else none
theorem ab2{t T:String}{b:Bool}(e:a4t t T=some b):PySem.W.kitOne K (.type t) (.type T)=some b:=by
 unfold a4t at e
 split at e
 ·rename_i h;obtain⟨h1,h2⟩:=h;simp only[aO,aU,bY]at h1 h2
  rcases h1 with rfl|rfl|rfl|rfl|rfl|rfl|rfl<;>rcases h2 with rfl|rfl|rfl|rfl|rfl|rfl<;>(cases e;rfl)
 ·cases e
def a6f:List D->Hd->R D
 |[x,.ty T],h=>(match tyD x h with|some t=>(match a4t t T with|some b=>.ok (.bl b) h|none=>.no)|none=>.no)
 |_,_=>.no
theorem al4(r:Rep K ι H x d)(hr:HRep K ι H h)(e:tyD d h=some t):TyOf K H x (.type t):=by
 cases r with
 |non=>cases e;exact .non
 |bl b=>cases e;exact .bl b
 |int b=>cases e;exact .int b
 |str b=>cases e;exact .str b
 |ty _=>cases e
 |tup hp r=>cases e;exact .tup hp
 |rol hp r=>cases e;obtain⟨o,hp⟩:=hp;exact .frz hp
 |scr _ _=>cases e
 |rod _ _ _=>cases e
 |rdT _ _ _=>cases e
 |exc _ _ _=>cases e
 |ins _ _ _ _=>cases e
 |ref hp =>
  obtain⟨ob,e1,e2⟩:=hr.at hp
  cases ob with
  |lst xs=>simp only[tyD,e1]at e;cases e;obtain⟨vs,h3,h4⟩:=e2;exact .lst h3
  |dK _=>simp only[tyD,e1]at e;cases e;obtain⟨vs,h3,h4⟩:=e2;exact .dK h3
  |dT _=>simp only[tyD,e1]at e;cases e
  |ins _ _=>simp only[tyD,e1]at e;cases e
  |dN _=>simp only[tyD,e1]at e;cases e
theorem ahv:a9n K a6f (λxs H Q=>∃x T t b,xs=[x,.ty T]/\TyOf K H x t/\PySem.W.kitOne K t (.type T)=some b/\Q (.bl b) H):=by
 intro E ι H h xs ds Q r hr o
 unfold a6f at o
 split at o
 ·rename_i d T
  cases r with
  |cons r rs =>
   cases rs with
   |cons q rs =>
    cases q;cases rs
    cases ht:tyD d h with
    |none=>rw[ht]at o;exact o.elim
    |some t =>
     rw[ht]at o
     cases hb:a4t t T with
     |none=>simp only[hb]at o;exact o.elim
     |some b =>
      simp only[hb]at o;exact⟨_,T,.type t,b,rfl,al4 r hr ht,ab2 hb,ans o (.bl _) hr⟩
 ·exact o.elim
end
section
variable{X:Cx}{K:Fg}{E:XD}{a b e o:Expr}{es:List Expr}{fa fb fo:SE}{ka:SA}{pos apos cpos:Pos}{name:Str}{idn:String}
def anv(K:Fg)(g:D->List D->Hd->R D)(r:V->List V->Hp->VK->Prop):Prop:=∀(E:XD) ι H h x dx xs ds Q,Rep K ι H x dx->Reps K ι H xs ds->HRep K ι H h->out K E (yj K) ι H (g dx ds h) Q->r x xs H Q
def isL(d:D)(h:Hd):Bool:=match d with|.ref i=>(match h[i]? with|some (.lst _)=>true|_=>false)|.rol _=>true|_=>false
def sML(g:D->List D->Hd->R D)(f:SE)(k:SA):SE:=λτ h=>(f τ h).bind λd h1=>if isL d h1=true then (k τ h1).bind λds h2=>g d ds h2 else .no
theorem al5(r:Rep K ι H x d)(hr:HRep K ι H h)(e:isL d h=true):tyV K "list" x H:=by
 cases r with
 |rol hp _=>exact .inl ⟨rfl,_,hp.l⟩
 |ref hp =>
  obtain⟨ob,e1,e2⟩:=hr.at hp
  cases ob with
  |lst xs=>obtain⟨vs,h3,_⟩:=e2;exact .inl ⟨rfl,_,SqL.of h3⟩
  |dK _=>simp[isL,e1]at e
  |dT _=>simp[isL,e1]at e
  |ins _ _=>simp[isL,e1]at e
  |dN _=>simp[isL,e1]at e
 |_=>cases e
theorem ahw(slot:Slot "list" name idn)(hty:typeOf (.builtin idn)=pure (.type "method_descriptor"))(hm:MtR X idn r)(hs:anv X.K g r)(ho:ME X E o fo)(ha:MA X E (e::es) ka)
  (hbase:attributeBase o name X.env (eval o X.env)=eval o X.env:=by rfl)
  (hfew:((backTo cpos (starEach (e::es) X.env)).all (λx => !x.1) && (backToKw cpos (keywordEach [] X.env)).all (λx=>x.1.isSome)
   && decide ((e::es).length+([]:List Keyword).length+(if ([]:List Keyword).isEmpty then 0 else 1)<30))=true:=by rfl)
  (hline:(apos.endLine == cpos.line)=true:=by rfl) (hst:starEach (e::es) X.env=(false,eval e X.env)::starEach es X.env:=by rfl) (hplain:(backTo cpos (starEach es X.env)).any (·.1)=false:=by rfl) :
  ME X E (.Call (.Attribute o name apos) (e::es) [] cpos) (sML g fo ka):=by
 refine PE.weak (aot PySem.F.plainAttrs_list slot hty hm ho ha hbase hfew hline hst hplain) ?_
 rintro σ H Q ⟨ι,τ,h,S,Rh,o⟩
 refine⟨ι,τ,h,S,Rh,bz o λd h1 ι1 H1 v g1 r1 hr1 o1=>?_⟩
 by_cases hc:isL d h1=true
 ·rw[aJ hc]at o1;refine⟨al5 r1 hr1 hc,ι1,τ,h1,S.mono g1,hr1,bz o1 λds h2 ι2 H2 vs g2 r2 hr2 o2=>?_⟩;exact hs E ι2 H2 h2 v d vs ds Q (r1.mono g2) r2 hr2 o2
 ·rw[aY hc]at o1;exact o1.elim
def acx:D->List D->Hd->R D
 |.ref i,[y],h=>(match h[i]? with|some (.lst xs)=>if xs.length<LINE then .ok .non (h.set i (.lst (xs++[y]))) else .no|_=>.no)
 |_,_,_=>.no
theorem a7e:anv K acx aa9:=by
 intro E ι H h x dx xs ds Q rx r hr o
 unfold acx at o
 split at o
 ·rename_i i y
  cases rx with
  |@ref p _ hp =>
   cases r with
   |cons r1 rs =>
    cases rs
    split at o
    ·rename_i xs hx;obtain⟨vs,h3,h4⟩:=hr.lst hp hx
     split at o
     ·rename_i hc;exact⟨p,vs,_,rfl,rfl,h3,by rw[h4.len,aoy];exact hc,ahi (h4.snoc r1) hr hp .non o⟩
     ·exact o.elim
    ·exact o.elim
 ·exact o.elim
def sMS(g:D->List D->Hd->R D)(f:SE)(k:SA):SE:=λτ h=>(f τ h).bind λd h1=>match d with|.str z=>(k τ h1).bind λds h2=>g (.str z) ds h2|_=>.no
theorem a9c(slot:Slot "str" name idn)(hty:typeOf (.builtin idn)=pure (.type "method_descriptor"))(hm:MtR X idn r)(hs:anv X.K g r)(ho:ME X E o fo)(ha:MA X E (e::es) ka)
  (hbase:attributeBase o name X.env (eval o X.env)=eval o X.env:=by rfl)
  (hfew:((backTo cpos (starEach (e::es) X.env)).all (λx => !x.1) && (backToKw cpos (keywordEach [] X.env)).all (λx=>x.1.isSome)
   && decide ((e::es).length+([]:List Keyword).length+(if ([]:List Keyword).isEmpty then 0 else 1)<30))=true:=by rfl)
  (hline:(apos.endLine == cpos.line)=true:=by rfl) (hst:starEach (e::es) X.env=(false,eval e X.env)::starEach es X.env:=by rfl) (hplain:(backTo cpos (starEach es X.env)).any (·.1)=false:=by rfl) :
  ME X E (.Call (.Attribute o name apos) (e::es) [] cpos) (sMS g fo ka):=by
 refine PE.weak (ap0 slot hty hm ho ha hbase hfew hline hst hplain) ?_
 rintro σ H Q ⟨ι,τ,h,S,Rh,o⟩
 refine⟨ι,τ,h,S,Rh,bz o λd h1 ι1 H1 v g1 r1 hr1 o1=>?_⟩
 cases r1 with
 |str z=>exact⟨⟨z,rfl⟩,ι1,τ,h1,S.mono g1,hr1,bz o1 λds h2 ι2 H2 vs g2 r2 hr2 o2=>hs E ι2 H2 h2 _ _ vs ds Q (.str z) r2 hr2 o2⟩
 |_=>exact o1.elim
def a7f:List D->Option (List Str)
 |[]=>some []
 |.str z::r=>(a7f r).map (z::·)
 |_::_=>none
theorem a4u:∀{vs:List V} {xs:List D} {zs:List Str},Reps K ι H vs xs->a7f xs=some zs->vs=zs.map V.str
 |_,_,_,.nil,e=>by cases e;rfl
 |_,_,zs,.cons (d:=d) r rs,e=>by
  cases r with
  |str z =>
   simp only[a7f,aw]at e;obtain⟨ws,h1,rfl⟩:=e;rw[a4u rs h1];rfl
  |_=>cases e
def a03:D->List D->Hd->R D
 |.str sep,[.ref i],h=>(match h[i]? with|some (.lst xs)=>(match a7f xs with|some zs=>if (zs.map (·.length)).sum+zs.length*sep.length<=16777216 then .ok (.str (Txt.join sep zs)) h else .no|none=>.no)|_=>.no)
 |.str sep,[.rol xs],h=>(match a7f xs with|some zs=>if (zs.map (·.length)).sum+zs.length*sep.length<=16777216 then .ok (.str (Txt.join sep zs)) h else .no|none=>.no)
 |_,_,_=>.no
theorem yt:anv K a03 (λx xs H Q=>∃sep p zs,x=.str sep/\xs=[.ref p]/\SqL K H p (zs.map V.str)/\(zs.map (·.length)).sum+zs.length*sep.length<=16777216/\Q (.str (Txt.join sep zs)) H):=by
 intro E ι H h x dx xs ds Q rx r hr o
 unfold a03 at o
 split at o
 ·rename_i sep i;cases rx
  cases r with
  |cons r1 rs =>
   cases rs
   cases r1 with
   |@ref p _ hp =>
    split at o
    ·rename_i xs hx;obtain⟨vs,h3,h4⟩:=hr.lst hp hx
     split at o
     ·rename_i zs hz
      split at o
      ·rename_i hc;exact⟨sep,p,zs,rfl,rfl,SqL.of (by rw[h3,a4u h4 hz]),hc,ans o (.str _) hr⟩
      ·exact o.elim
     ·exact o.elim
    ·exact o.elim
 ·rename_i sep xs;cases rx
  cases r with
  |cons r1 rs =>
   cases rs
   cases r1 with
   |@rol p vs xs hp r =>
    split at o
    ·rename_i zs hz
     split at o
     ·rename_i hc;exact⟨sep,p,zs,rfl,rfl,by rw[<-a4u r hz];exact hp.l,hc,ans o (.str _) hr⟩
     ·exact o.elim
    ·exact o.elim
 ·exact o.elim
def a0g:List D->Hd->R D
 |[.str z],h=>if z.length<=LINE then .ok (.ref h.length) (h++[.lst (qx z)]) else .no
 |[x],h=>(match uv x h with|some xs=>.ok (.ref h.length) (h++[.lst xs])|none=>.no)
 |_,_=>.no
theorem a0x(z:Str):Reps K ι H (sr z) (qx z):=by
 unfold sr qx
 induction z.cps.toList with
 |nil=>exact .nil
 |cons c cs ih=>exact .cons (.str _) ih
theorem ae1:a9n K a0g (λxs H Q=>(∃p ys,xs=[.ref p]/\(SqL K H p ys\/SqT K H p ys)/\∀l,H l=none->Q (.ref l) (upd H l (.lst ys)))\/∃z,xs=[.str z]/\z.length<=sizeLine/\∀l,H l=none->Q (.ref l) (upd H l (.lst (sr z)))):=by
 intro E ι H h xs ds Q r hr o
 cases r with
 |nil=>exact o.elim
 |cons r rs =>
  cases rs with
  |cons _ _=>exact(show False by cases r<;>exact o).elim
  |nil =>
   cases r with
   |str z =>
    by_cases hc:z.length<=LINE
    ·simp only[a0g,aJ hc]at o;exact .inr ⟨z,rfl,ll hc,uf (a0x z) hr o⟩
    ·simp only[a0g,aY hc]at o;exact o.elim
   |@tup p vs xs hp r=>simp only[a0g,uv]at o;exact .inl ⟨p,vs,rfl,.inr (SqT.of hp),uf r hr o⟩
   |@rol p vs xs hp r=>simp only[a0g,uv]at o;exact .inl ⟨p,vs,rfl,.inl hp.l,uf r hr o⟩
   |@ref p j hp =>
    obtain⟨ob,e1,e2⟩:=hr.at hp
    cases ob with
    |lst xs =>
     simp only[a0g,uv,e1]at o;obtain⟨vs,h3,h4⟩:=e2;exact .inl ⟨p,vs,rfl,.inl (SqL.of h3),uf h4 hr o⟩
    |dK _=>simp only[a0g,uv,e1]at o;exact o.elim
    |dT _=>simp only[a0g,uv,e1]at o;exact o.elim
    |ins _ _=>simp only[a0g,uv,e1]at o;exact o.elim
    |dN _=>simp only[a0g,uv,e1]at o;exact o.elim
   |_=>exact o.elim
def uw:List D->Hd->R D
 |[.str z],h=>if z.length<=LINE then .ok (.tup (qx z)) h else .no
 |[x],h=>(match uv x h with|some xs=>.ok (.tup xs) h|none=>.no)
 |_,_=>.no
theorem a6g:a9n K uw (λxs H Q=>(∃p ys,xs=[.ref p]/\((SqL K H p ys/\∀l,H l=none->Q (.ref l) (upd H l (.tup ys)))\/(SqT K H p ys/\Q (.ref p) H)))\/∃z,xs=[.str z]/\z.length<=sizeLine/\∀l,H l=none->Q (.ref l) (upd H l (.tup (sr z)))):=by
 intro E ι H h xs ds Q r hr o
 cases r with
 |nil=>exact o.elim
 |cons r rs =>
  cases rs with
  |cons _ _=>exact(show False by cases r<;>exact o).elim
  |nil =>
   cases r with
   |str z =>
    by_cases hc:z.length<=LINE
    ·simp only[uw,aJ hc]at o;exact .inr ⟨z,rfl,ll hc,a02 (a0x z) hr o⟩
    ·simp only[uw,aY hc]at o;exact o.elim
   |@tup p vs xs hp r=>simp only[uw,uv]at o;exact .inl ⟨p,vs,rfl,.inr ⟨SqT.of hp,ans o (.tup hp r) hr⟩⟩
   |@rol p vs xs hp r=>simp only[uw,uv]at o;exact .inl ⟨p,vs,rfl,.inl ⟨hp.l,a02 r hr o⟩⟩
   |@ref p j hp =>
    obtain⟨ob,e1,e2⟩:=hr.at hp
    cases ob with
    |lst xs =>
     simp only[uw,uv,e1]at o;obtain⟨vs,h3,h4⟩:=e2;exact .inl ⟨p,vs,rfl,.inl ⟨SqL.of h3,a02 h4 hr o⟩⟩
    |dK _=>simp only[uw,uv,e1]at o;exact o.elim
    |dT _=>simp only[uw,uv,e1]at o;exact o.elim
    |ins _ _=>simp only[uw,uv,e1]at o;exact o.elim
    |dN _=>simp only[uw,uv,e1]at o;exact o.elim
   |_=>exact o.elim
def ahx:List D->Option (List Bool)
 |[]=>some []
 |.bl z::r=>(ahx r).map (z::·)
 |_::_=>none
def al6:List D->Option (List Int)
 |[]=>some []
 |.int z::r=>(al6 r).map (z::·)
 |_::_=>none
theorem a7g:∀{vs:List V} {xs:List D} {zs:List Bool},Reps K ι H vs xs->ahx xs=some zs->vs=zs.map V.bl
 |_,_,_,.nil,e=>by cases e;rfl
 |_,_,zs,.cons (d:=d) r rs,e=>by
  cases r with
  |bl z =>
   simp only[ahx,aw]at e;obtain⟨ws,h1,rfl⟩:=e;rw[a7g rs h1];rfl
  |_=>cases e
theorem ae2(bs:List Bool):ahx (bs.map D.bl)=some bs:=by
 induction bs with
 |nil=>rfl
 |cons b bs ih=>simp[ahx,ih]
def afn:List D->Hd->R D
 |[.ref i],h=>(match h[i]? with|some (.lst xs)=>(match ahx xs with|some bs=>.ok (.bl (bs.all id)) h|none=>.no)|_=>.no)
 |[.rol xs],h=>(match ahx xs with|some bs=>.ok (.bl (bs.all id)) h|none=>.no)
 |_,_=>.no
theorem ab3:a9n K afn (λxs H Q=>∃(p:Addr) (bs:List Bool),xs=[.ref p]/\SqL K H p (bs.map V.bl)/\Q (.bl (bs.all id)) H):=by
 intro E ι H h xs ds Q r hr o
 unfold afn at o
 split at o
 ·cases r with
  |cons r rs =>
   cases rs
   cases r with
   |@ref p _ hp =>
    split at o
    ·rename_i xs hx;obtain⟨vs,h3,h4⟩:=hr.lst hp hx
     split at o
     ·rename_i bs hb;exact⟨p,bs,rfl,SqL.of (by rw[h3,a7g h4 hb]),ans o (.bl _) hr⟩
     ·exact o.elim
    ·exact o.elim
 ·cases r with
  |cons r rs =>
   cases rs
   cases r with
   |@rol p vs xs hp r =>
    split at o
    ·rename_i bs hb;exact⟨p,bs,rfl,by rw[<-a7g r hb];exact hp.l,ans o (.bl _) hr⟩
    ·exact o.elim
 ·exact o.elim
def a04(d:D)(h:Hd):R D:=match d with|.str z=>if z.length<=1000 then .ok (.int ((a1k z.cps.toList).length:Nat)) h else .no|_=>.no
theorem ab4(hc:X.calm=true)(hg1:Gl X "len")(hm1:X.mg "len" = none)(hg2:Gl X "set")(hm2:X.mg "set" = none)(ha:ME X E e fa)
  (h1:starEach [e] X.env=[(false,eval e X.env)]:=by rfl) (h2:starEach [.Call (.Name "set" p2) [e] [] pos2] X.env=[(false,eval (.Call (.Name "set" p2) [e] [] pos2) X.env)]:=by rfl) :
  ME X E (.Call (.Name "len" p1) [.Call (.Name "set" p2) [e] [] pos2] [] pos1) (s1 a04 fa):=by
 have q:=a7x (pos:=pos1) (p:=p1) call_len_set hg1 hm1 af6 (a2a (a5v (pos:=pos2) (p:=p2) (a97 hc) hg2 hm2 akk (a2a ha a7u (by rw[h1];rfl)) (by decide) (by decide) (by rw[h1];rfl) rfl) a7u (by rw[h2];rfl)) (by decide) (by decide) (by rw[h2];rfl) rfl
 refine PE.weak q ?_
 rintro σ H Q ⟨ι,τ,h,S,Rh,o⟩
 refine⟨ι,τ,h,S,Rh,bz o λd h1 ι1 H1 v g1 r1 hr1 o1=>?_⟩
 cases r1 with
 |str z =>
  by_cases hz:z.length<=1000
  ·simp only[a04,aJ hz]at o1;refine⟨z,rfl,hz,λl hl=>⟨l,_,rfl,qp,o1 ι1 _ _ (yh hl _) (.int _) (hr1.aside hl _)⟩⟩
  ·simp only[a04,aY hz]at o1;exact o1.elim
 |_=>exact o1.elim
end
end MI
theorem L2.Room.u(r:L2.Room k A):A.units+64<PySem.cLine:=r.units
namespace MI
open L2
mutual
def eqD:D->D->Bool
 |.non,.non=>true
 |.bl a,.bl b=>a == b
 |.bl a,.int b=>(if a then 1 else 0) == b
 |.int a,.bl b=>a == (if b then 1 else 0)
 |.int a,.int b=>a == b
 |.str a,.str b=>a == b
 |.tup xs,.tup ys=>afo xs ys
 |_,_=>false
def afo:List D->List D->Bool
 |[],[]=>true
 |x::xs,y::ys=>eqD x y && afo xs ys
 |_,_=>false
end
def pur:Nat->D->Bool
 |_,.non=>true
 |_,.bl _=>true
 |_,.int _=>true
 |_,.str _=>true
 |n+1,.tup xs=>xs.all (pur n)
 |_,_=>false
def pairE(xs ys:List D)(j:Nat):Bool:=match xs[j]?,ys[j]? with|some x,some y=>eqD x y|_,_=>false
theorem a4v:∀xs ys:List D,((List.range (min xs.length ys.length)).all (pairE xs ys) && xs.length == ys.length)=afo xs ys
 |[],[]=>by simp[afo]
 |[],_::_=>by simp[afo]
 |_::_,[]=>by simp[afo]
 |x::xs,y::ys=>by
  have ih:=a4v xs ys;rw[show min (x::xs).length (y::ys).length=min xs.length ys.length+1 by simp only[af];omega,List.range_succ_eq_map]
  rw[cR,dE];have e:(pairE (x::xs) (y::ys) ∘ Nat.succ)=pairE xs ys:=by funext j;simp[pairE]
  rw[e];simp only[afo];rw[<-ih];have e2:((x::xs).length == (y::ys).length)=(xs.length == ys.length):=by simp
  rw[e2,Bool.and_assoc];rfl
section
variable{K:Fg}{ι:List Addr}{H:Hp}
theorem a4w{xs:List D}(r:Rep K ι H v (.tup xs)):∃a vs,v=.ref a/\H a=some (.tup vs)/\Reps K ι H vs xs:=by cases r with|@tup a vs _ h rs=>exact⟨a,vs,rfl,h,rs⟩
theorem afp(r:Rep K ι H v d)(q:Rep K ι H v e)(f:vh d=true)(g:vh e=true):eqD d e=true:=by
 have h:=ady r f;have h':=ady q g
 cases d<;>first|(cases h;done)|(cases h;cases e<;>first|(cases h';done)|(cases h';simp[eqD]))
theorem vm(r:Rep K ι H v d)(p:pur n d=true):(∃xs,d=.tup xs)\/(zy v=true/\vh d=true):=by
 cases r<;>first|exact .inr ⟨rfl,rfl⟩|exact .inl ⟨_,rfl⟩|(cases n<;>cases p)
theorem a4x(r:Rep K ι H x d)(q:Rep K ι H y e)(f:vh d=true)(g:vh e=true):eqV x y=eqD d e:=by
 refine fvs (P:=λd x c y=>eqV x y=eqD d c) (λd x e y h h'=>?_) r q f g
 cases d<;>first|(cases h;done)|(cases h;cases e<;>first|(cases h';done)|(cases h';first|rfl|(simp[eqV,eqD];done)))
theorem ae3:∀(n:Nat) {v:V} {d e:D},Rep K ι H v d->Rep K ι H v e->pur n d=true->pur n e=true->eqD d e=true:=by
 intro n
 induction n with
 |zero =>
  intro v d e r q p1 p2
  rcases vm r p1 with⟨xs,rfl⟩|⟨f1,g1⟩
  ·cases p1
  rcases vm q p2 with⟨xs,rfl⟩|⟨f2,g2⟩
  ·cases p2
  exact afp r q g1 g2
 |succ n ih =>
  intro v d e r q p1 p2
  rcases vm r p1 with⟨xs,rfl⟩|⟨f1,g1⟩
  ·rcases vm q p2 with⟨ys,rfl⟩|⟨f2,g2⟩
   ·obtain⟨a,vs,rfl,h,rs⟩:=a4w r;obtain⟨b,us,z,h',qs⟩:=a4w q;cases z
    rw[h]at h';cases h'
    simp only[eqD];simp only[pur,bJ]at p1 p2
    clear h r q
    induction rs using Reps.rec (motive_1:=λ_ _ _=>True) generalizing ys with
    |nil=>cases qs;rfl
    |cons r rs _ ih2 =>
     cases qs with
     |cons q qs =>
      simp only[afo,bI];exact⟨ih r q (p1 _ (aV ..)) (p2 _ (aV ..)),ih2 _ qs (λx hx=>p1 x (aR _ hx)) (λx hx=>p2 x (aR _ hx))⟩
    |_=>trivial
   ·obtain⟨a,vs,rfl,h,rs⟩:=a4w r;cases f2
  ·rcases vm q p2 with⟨ys,rfl⟩|⟨f2,g2⟩
   ·obtain⟨a,vs,rfl,h,rs⟩:=a4w q;cases f1
   ·exact afp r q g1 g2
open SeqAt in
theorem al7{s:Shared}(hok:HOk P w H s.heap):∀(n:Nat) (A:Around) {x y:V} {u v:Value} {d e:D},Rep K ι H x d->Rep K ι H y e->RelV x u->RelV y v->pur n d=true->pur n e=true->A.units+n<cLine->EqAt A s u v (eqD d e):=by
 intro n
 induction n with
 |zero =>
  intro A x y u v d e r q rx ry p1 p2 hu
  rcases vm r p1 with⟨xs,rfl⟩|⟨f1,f2⟩
  ·cases p1
  ·rcases vm q p2 with⟨xs,rfl⟩|⟨g1,g2⟩
   ·cases p2
   ·rw[<-a4x r q f2 g2];exact aa7 rx ry f1 g1
 |succ n ih =>
  intro A x y u v d e r q rx ry p1 p2 hu
  rcases vm r p1 with⟨xs,rfl⟩|⟨f1,f2⟩
  ·cases r with
   |@tup a vs _ ha rs =>
    cases rx
    obtain⟨_,its,r1,t1⟩:=(Rd.of ha).ok hok;have t1:=t1.r
    rcases vm q p2 with⟨ys,rfl⟩|⟨g1,g2⟩
    ·cases q with
     |@tup b us _ hb qs =>
      cases ry
      obtain⟨_,its2,r2,t2⟩:=(Rd.of hb).ok hok;have t2:=t2.r
      by_cases hab:a=b
      ·subst hab;rw[ae3 (n+1) (.tup ha rs) (.tup hb qs) p1 p2];exact EqAt.same _
      ·have l1:its.toArray.size=xs.length:=by rw[ag,<-r1.length,rs.len]
       have l2:its2.toArray.size=ys.length:=by rw[ag,<-r2.length,qs.len]
       have:=RcAt.tuples (A:=A) (s:=s) (e:=pairE xs ys) t1 t2 (by omega) (λj h1 h2=>by
        have j1:j<xs.length:=by omega
        have j2:j<ys.length:=by omega
        obtain⟨v1,e1,q1⟩:=rs.get (ae j1);obtain⟨v2,e2,q2⟩:=qs.get (ae j2);obtain⟨u1,e3,q3⟩:=r1.get e1;obtain⟨u2,e4,q4⟩:=r2.get e2;have f1:its.toArray[j]=u1:=by simpa using (a7.mp e3).2
        have f2:its2.toArray[j]=u2:=by simpa using (a7.mp e4).2
        have pe:pairE xs ys j=eqD xs[j] ys[j]:=by simp[pairE,ae j1,ae j2]
        rw[f1,f2,pe];simp only[pur,bJ]at p1 p2;exact ih A.in1 q1 q2 q3 q4 (p1 _ (cF j1)) (p2 _ (cF j2)) (by rw[Around.in1_units];omega))
       rw[l1,l2,a4v]at this;exact EqAt.of_refs hab this
    ·have e0:eqD (.tup xs) e=false:=by cases e<;>first|rfl|(cases g2;done)
     rw[e0]
     cases y with
     |non=>cases ry;exact EqAt.tuple_none t1 (by omega)
     |bl b=>cases ry;exact EqAt.tuple_bool b t1 (by omega)
     |int b=>obtain⟨t,rfl⟩:=ry;exact EqAt.tuple_int b t t1 (by omega)
     |str b=>obtain⟨t,rfl⟩:=ry;exact EqAt.tuple_str b t t1 (by omega)
     |_=>cases g1
  ·rcases vm q p2 with⟨ys,rfl⟩|⟨g1,g2⟩
   ·cases q with
    |@tup b us _ hb qs =>
     cases ry
     obtain⟨_,its2,r2,t2⟩:=(Rd.of hb).ok hok;have t2:=t2.r;have e0:eqD d (.tup ys)=false:=by cases d<;>first|rfl|(cases f2;done)
     rw[e0]
     cases x with
     |non=>cases rx;exact EqAt.none_tuple t2 (by omega)
     |bl b=>cases rx;exact EqAt.bool_tuple b t2 (by omega)
     |int b=>obtain⟨t,rfl⟩:=rx;exact EqAt.int_tuple b t t2 (by omega)
     |str b=>obtain⟨t,rfl⟩:=rx;exact EqAt.str_tuple b t t2 (by omega)
     |_=>cases f1
   ·rw[<-a4x r q f2 g2];exact aa7 rx ry f1 g1
open SeqAt in
theorem al8(ry:RelV y u)(rx:RelV x v)(fy:zy y=true)(fx:zy x=true):RcAt A s u v (eqV y x):=by
 cases y with
 |non =>
  cases ry
  cases x with
  |non=>cases rx;exact RcAt.none_none
  |bl b=>cases rx;exact RcAt.none_bool b
  |int b=>obtain⟨t,rfl⟩:=rx;exact RcAt.none_int b t
  |str b=>obtain⟨t,rfl⟩:=rx;exact RcAt.none_str b t
  |_=>cases fx
 |bl a =>
  cases ry
  cases x with
  |non=>cases rx;exact RcAt.bool_none a
  |bl b=>cases rx;exact RcAt.bool_bool a b
  |int b=>obtain⟨t,rfl⟩:=rx;exact RcAt.bool_int a b t
  |str b=>obtain⟨t,rfl⟩:=rx;exact RcAt.bool_str a b t
  |_=>cases fx
 |int a =>
  obtain⟨t',rfl⟩:=ry
  cases x with
  |non=>cases rx;exact RcAt.int_none a t'
  |bl b=>cases rx;exact RcAt.int_bool a t' b
  |int b=>obtain⟨t,rfl⟩:=rx;exact RcAt.int_int a t' b t
  |str b=>obtain⟨t,rfl⟩:=rx;exact RcAt.int_str a t' b t
  |_=>cases fx
 |str a =>
  obtain⟨t',rfl⟩:=ry
  cases x with
  |non=>cases rx;exact RcAt.str_none a t'
  |bl b=>cases rx;exact RcAt.str_bool a t' b
  |int b=>obtain⟨t,rfl⟩:=rx;exact RcAt.str_int a t' b t
  |str b=>obtain⟨t,rfl⟩:=rx;exact RcAt.str_str a t' b t
  |_=>cases fx
 |_=>cases fy
open SeqAt in
theorem ae4(ry:RelV y u)(rx:RelV x v)(fy:zy y=true)(fx:zy x=true):RcNeAt A s u v (!eqV y x):=by
 cases y with
 |non =>
  cases ry
  cases x with
  |non=>cases rx;exact RcNeAt.none_none
  |bl b=>cases rx;exact RcNeAt.none_bool b
  |int b=>obtain⟨t,rfl⟩:=rx;exact RcNeAt.none_int b t
  |str b=>obtain⟨t,rfl⟩:=rx;exact RcNeAt.none_str b t
  |_=>cases fx
 |bl a =>
  cases ry
  cases x with
  |non=>cases rx;exact RcNeAt.bool_none a
  |bl b=>cases rx;exact RcNeAt.bool_bool a b
  |int b=>obtain⟨t,rfl⟩:=rx;exact RcNeAt.bool_int a b t
  |str b=>obtain⟨t,rfl⟩:=rx;exact RcNeAt.bool_str a b t
  |_=>cases fx
 |int a =>
  obtain⟨t',rfl⟩:=ry
  cases x with
  |non=>cases rx;exact RcNeAt.int_none a t'
  |bl b=>cases rx;exact RcNeAt.int_bool a t' b
  |int b=>obtain⟨t,rfl⟩:=rx;exact RcNeAt.int_int a t' b t
  |str b=>obtain⟨t,rfl⟩:=rx;exact RcNeAt.int_str a t' b t
  |_=>cases fx
 |str a =>
  obtain⟨t',rfl⟩:=ry
  cases x with
  |non=>cases rx;exact RcNeAt.str_none a t'
  |bl b=>cases rx;exact RcNeAt.str_bool a t' b
  |int b=>obtain⟨t,rfl⟩:=rx;exact RcNeAt.str_int a t' b t
  |str b=>obtain⟨t,rfl⟩:=rx;exact RcNeAt.str_str a t' b t
  |_=>cases fx
 |_=>cases fy
open SeqAt in
theorem tops{s:Shared}{A:Around}(hok:HOk P w H s.heap)(r:Rep K ι H x d)(q:Rep K ι H y e)(rx:RelV x u)(ry:RelV y v)(p1:pur 60 d=true)(p2:pur 60 e=true)(hu:A.units+64<cLine) :
  RcAt A s u v (eqD d e)/\RcNeAt A s u v (!eqD d e):=by
 rcases vm r p1 with⟨xs,rfl⟩|⟨f1,f2⟩
 ·cases r with
  |@tup a vs _ ha rs =>
   cases rx
   obtain⟨_,its,r1,t1⟩:=(Rd.of ha).ok hok;have t1:=t1.r
   rcases vm q p2 with⟨ys,rfl⟩|⟨g1,g2⟩
   ·cases q with
    |@tup b us _ hb qs =>
     cases ry
     obtain⟨_,its2,r2,t2⟩:=(Rd.of hb).ok hok;have t2:=t2.r;have l1:its.toArray.size=xs.length:=by rw[ag,<-r1.length,rs.len]
     have l2:its2.toArray.size=ys.length:=by rw[ag,<-r2.length,qs.len]
     have step:∀j (h1:j<its.toArray.size) (h2:j<its2.toArray.size),EqAt A.in1 s its.toArray[j] its2.toArray[j] (pairE xs ys j):=λj h1 h2=>by
      have j1:j<xs.length:=by omega
      have j2:j<ys.length:=by omega
      obtain⟨v1,e1,q1⟩:=rs.get (ae j1);obtain⟨v2,e2,q2⟩:=qs.get (ae j2);obtain⟨u1,e3,q3⟩:=r1.get e1;obtain⟨u2,e4,q4⟩:=r2.get e2;have f1:its.toArray[j]=u1:=by simpa using (a7.mp e3).2
      have f2:its2.toArray[j]=u2:=by simpa using (a7.mp e4).2
      have pe:pairE xs ys j=eqD xs[j] ys[j]:=by simp[pairE,ae j1,ae j2]
      rw[f1,f2,pe];simp only[pur,bJ]at p1 p2;exact al7 hok 59 A.in1 q1 q2 q3 q4 (p1 _ (cF j1)) (p2 _ (cF j2)) (by rw[Around.in1_units];omega)
     have c1:=RcAt.tuples (A:=A) (s:=s) (e:=pairE xs ys) t1 t2 (by omega) step
     have c2:=RcNeAt.tuples (A:=A) (s:=s) (e:=pairE xs ys) t1 t2 (by omega) step
     rw[l1,l2,a4v]at c1 c2;exact⟨c1,c2⟩
   ·have e0:eqD (.tup xs) e=false:=by cases e<;>first|rfl|(cases g2;done)
    rw[e0]
    cases y with
    |non=>cases ry;exact⟨RcAt.tuple_none t1 (by omega),RcNeAt.tuple_none t1 (by omega)⟩
    |bl b=>cases ry;exact⟨RcAt.tuple_bool b t1 (by omega),RcNeAt.tuple_bool b t1 (by omega)⟩
    |int b=>obtain⟨t,rfl⟩:=ry;exact⟨RcAt.tuple_int b t t1 (by omega),RcNeAt.tuple_int b t t1 (by omega)⟩
    |str b=>obtain⟨t,rfl⟩:=ry;exact⟨RcAt.tuple_str b t t1 (by omega),RcNeAt.tuple_str b t t1 (by omega)⟩
    |_=>cases g1
 ·rcases vm q p2 with⟨ys,rfl⟩|⟨g1,g2⟩
  ·cases q with
   |@tup b us _ hb qs =>
    cases ry
    obtain⟨_,its2,r2,t2⟩:=(Rd.of hb).ok hok;have t2:=t2.r;have e0:eqD d (.tup ys)=false:=by cases d<;>first|rfl|(cases f2;done)
    rw[e0]
    cases x with
    |non=>cases rx;exact⟨RcAt.none_tuple t2 (by omega),RcNeAt.none_tuple t2 (by omega)⟩
    |bl b=>cases rx;exact⟨RcAt.bool_tuple b t2 (by omega),RcNeAt.bool_tuple b t2 (by omega)⟩
    |int b=>obtain⟨t,rfl⟩:=rx;exact⟨RcAt.int_tuple b t t2 (by omega),RcNeAt.int_tuple b t t2 (by omega)⟩
    |str b=>obtain⟨t,rfl⟩:=rx;exact⟨RcAt.str_tuple b t t2 (by omega),RcNeAt.str_tuple b t t2 (by omega)⟩
    |_=>cases f1
  ·rw[<-a4x r q f2 g2];exact⟨al8 rx ry f1 g1,ae4 rx ry f1 g1⟩
def aqe(K:Fg):R2:=λx y H Q=>∃ι d e,Rep K ι H x d/\Rep K ι H y e/\pur 60 d=true/\pur 60 e=true/\Q (.bl (eqD d e)) H
def aqf(K:Fg):R2:=λx y H Q=>∃ι d e,Rep K ι H x d/\Rep K ι H y e/\pur 60 d=true/\pur 60 e=true/\Q (.bl (!eqD d e)) H
theorem xq{X:Cx}(hu:X.A.units+64<cLine):OpR X (compareOp .Eq) (aqe X.K):=by
 intro aA s σ H x y v u Q I rx ry h
 obtain⟨ι,d,e,r,q,p1,p2,hq⟩:=h;exact(tops (A:=X.A) I.hok r q rx ry p1 p2 hu).1 X.prog X.w X.xe _ ⟨.bl _,H,I,rfl,hq⟩
theorem a0h{X:Cx}(hu:X.A.units+64<cLine):OpR X (compareOp .NotEq) (aqf X.K):=by
 intro aA s σ H x y v u Q I rx ry h
 obtain⟨ι,d,e,r,q,p1,p2,hq⟩:=h;exact(tops (A:=X.A) I.hok r q rx ry p1 p2 hu).2 X.prog X.w X.xe _ ⟨.bl _,H,I,rfl,hq⟩
def hEq(x y:D)(h:Hd):R D:=if pur 60 x=true/\pur 60 y=true then .ok (.bl (eqD x y)) h else .no
def hNe(x y:D)(h:Hd):R D:=if pur 60 x=true/\pur 60 y=true then .ok (.bl (!eqD x y)) h else .no
theorem rn:zm K hEq (aqe K):=by
 intro E ι H h x y dx dy Q rx ry hr o
 unfold hEq at o
 split at o
 ·rename_i hc;exact⟨ι,dx,dy,rx,ry,hc.1,hc.2,ans o (.bl _) hr⟩
 ·exact o.elim
theorem wj:zm K hNe (aqf K):=by
 intro E ι H h x y dx dy Q rx ry hr o
 unfold hNe at o
 split at o
 ·rename_i hc;exact⟨ι,dx,dy,rx,ry,hc.1,hc.2,ans o (.bl _) hr⟩
 ·exact o.elim
end
section
variable{X:Cx}{E:XD}{K:Fg}
def ahy:SE:=λ_ h=>.ok (.ref h.length) (h++[.dK []])
def a3j:D->D->Hd->R D
 |.int i,.int j,h=>.ok (.int (i+j)) h
 |.str x,.str y,h=>if x.length+y.length<=LINE then .ok (.str (x++y)) h else .no
 |_,_,_=>.no
theorem yu:zm K a3j (λx y H Q=>rI0 (λi j=>.int (i+j)) x y H Q\/∃i j,x=.str i/\y=.str j/\i.length+j.length<=sizeLine/\Q (.str (i++j)) H):=by
 intro E ι H h x y dx dy Q rx ry hr o
 cases rx with
 |int i =>
  cases ry with
  |int j=>exact .inl ⟨i,j,rfl,rfl,ans o (.int _) hr⟩
  |_=>exact o.elim
 |str i =>
  cases ry with
  |str j =>
   by_cases hc:i.length+j.length<=LINE
   ·simp only[a3j,aJ hc]at o;exact .inr ⟨i,j,rfl,rfl,ll hc,ans o (.str _) hr⟩
   ·simp only[a3j,aY hc]at o;exact o.elim
  |_=>exact o.elim
 |_=>exact o.elim
theorem al9:bootBuiltins "min" = some (.builtin "min"):=by first|exact PySem.boot_min|exact PyProof.Rows.boot_min
theorem a7h:bootBuiltins "bool" = some (.type "bool"):=by first|exact PySem.boot_bool|exact PyProof.Rows.boot_bool
theorem m7(h1:MG X E e g)(h2:MGs X E es ks)(hs:(assignEach (e::es) X.env).map (·.2)=assign e X.env::(assignEach es X.env).map (·.2):=by rfl):MGs X E (e::es) (w6 g ks) :=
 PGs.weak (a4e h1 h2 hs) λvs σ H Q q=>adv q
end
end MI
namespace ZP
open PySem.Builtin PySem.Builtin.SmallTypes
section
variable{prog:Program}{w:World}{A:Around}{E:Value->Shared->Prop}{s:Shared}
theorem ahz{α:Type}{Q:α->Shared->Prop}(hh:A.handled=none)(q:∀h' e,(∀b o,s.heap.get? b=some o->h'.get? b=some o)->(∃o,h'.get? e=some o/\o.cls=.type "StopIteration")->E (.ref e) {s with heap:=h' }) :
  wpAny (model prog w) A (stopIteration:Sem α) Q E s:=by
 have none_first:firstArgMember (.type "StopIteration") []=pure Value.none:=by first|rfl|(simp only[firstArgMember];rfl)
 rw[stopIteration]
 apply a8
 rw[newExc,newTuple]
 apply a8
 apply bS _ (by size_fits)
 rw[none_first,pure_bind]
 apply bS _ (by size_fits)
 apply wpAny_raiseNew_none hh
 exact q _ _ (λb o z=>a6 _ (a6 _ z)) ⟨_,ay _ rfl,rfl⟩
theorem ae5(hi:s.heap.IsTupleIter it t i)(ht:s.heap.IsTuple t aC)(hx:aC[i]? = some x)
  (q:∀h',h'.IsTupleIter it t (i+1)->Heap.SameBut it s.heap h'->Q x {s with heap:=h' }):wpAny (model prog w) A (nextOf (.ref it)) Q E s:=by
 have ty:=hi.typeIs;obtain⟨o,e1,e2,e3⟩:=id hi;obtain⟨p,f1,f2,n,f3⟩:=ht;rw[nextOf]
 apply a8
 apply bH (name:=Str.ofString "__next__") ty bV
 apply cE bV ty dS _ (dJ _)
 change wpAny (model prog w) A.in1 (field (.ref it) 0>>=_) _ _ _
 apply a8;apply cb e1 e3 (x:=.ref t) rfl
 change wpAny (model prog w) A.in1 (field (.ref it) 1>>=_) _ _ _
 apply a8;apply cb e1 e3 (x:=.int i 0) rfl
 change wpAny (model prog w) A.in1 (seqItems? (.ref t)>>=_) _ _ _
 apply a8;apply cV f1 f3
 dsimp only;rw[dv,hx]
 apply a8
 obtain⟨c,dd,dt,sl⟩:=o;simp only at e2 e3;subst e2 e3
 apply wpAny_setField e1 rfl (eI 1)
 apply aE
 exact⟨x,rfl,aE (q _ ⟨_,Heap.get?_update_self _ e1 rfl,rfl,rfl⟩ (Heap.SameBut.update ..))⟩
theorem ai0{it t:Addr}{i:Nat}{aC:Array Value}{Q:Value->Shared->Prop}(hh:A.handled=none)(hi:s.heap.IsTupleIter it t i)(ht:s.heap.IsTuple t aC)(hx:aC[i]? = none)
  (q:∀h' e,Heap.ExtBut it s.heap h'->(∃o,h'.get? e=some o/\o.cls=.type "StopIteration")->E (.ref e) {s with heap:=h' }):wpAny (model prog w) A (nextOf (.ref it)) Q E s:=by
 have ty:=hi.typeIs;obtain⟨o,e1,e2,e3⟩:=id hi;obtain⟨p,f1,f2,n,f3⟩:=ht;rw[nextOf]
 apply a8
 apply bH (name:=Str.ofString "__next__") ty bV
 apply cE bV ty dS _ (dJ _)
 change wpAny (model prog w) A.in1 (field (.ref it) 0>>=_) _ _ _
 apply a8;apply cb e1 e3 (x:=.ref t) rfl
 change wpAny (model prog w) A.in1 (field (.ref it) 1>>=_) _ _ _
 apply a8;apply cb e1 e3 (x:=.int i 0) rfl
 change wpAny (model prog w) A.in1 (seqItems? (.ref t)>>=_) _ _ _
 apply a8;apply cV f1 f3
 dsimp only;rw[dv,hx];dsimp only;obtain⟨c,dd,dt,sl⟩:=o;simp only at e2 e3;subst e2 e3
 apply a8;apply wpAny_rule
 apply a8;apply wpAny_setField e1 rfl (e9 1)
 apply ahz (show A.in1.handled=none from hh)
 exact λh' e k z=>q h' e (λb o nb eb=>k b o ((Heap.SameBut.update ..).extBut b o nb eb)) z
theorem ab5{A:Around}(hh:A.handled=none)(it t:Addr)(ne:t≠it)(aC:Array Value):Draws prog w A it [it,t] aC.size (λi v=>aC[i]? = some v) (λi h=>h.IsTupleIter it t i/\h.IsTuple t aC) where
 live:=λ_ _ st=>let ⟨o,e,_⟩:=st.1; ⟨o,e⟩
 frame:=λ_ _ _ st k=>⟨let ⟨o,e,r⟩:=st.1; ⟨o,k it (by simp) o e,r⟩,let ⟨o,e,r⟩:=st.2; ⟨o,k t (by simp) o e,r⟩⟩
 item:=λi s Q E hi st q=>ae5 st.1 st.2 (el hi) λh' a b=>q _ h' s.toks (el hi) ⟨a,st.2.extBut b.extBut ne⟩ b
 done:=λs Q E st q=>ai0 hh st.1 st.2 (by simp) q
end
structure Ap (z TI TO i1 i2:Addr) (p q:List Addr):Prop where
 m1:i1∈p
 m2:i2∈q
 z1:z∉p
 z2:z∉q
 o1:TO∉p
 o2:TO∉q
 oz:TO≠z
 x1:i1∉q
 x2:i2∉p
section
variable{prog:Program}{w:World}{A:Around}{E:Value->Shared->Prop}{s:Shared}{z TI TO i1 i2:Addr}{p q:List Addr}{n1 n2 k:Nat}{P1 P2:Nat->Value->Prop}{S1 S2:Nat->Heap->Prop}{a b:Value}
theorem far{D:Draws prog w A i1 p n1 P1 S1}(sb:Heap.SameBut c h h')(nc:c∉p)(st:S1 k h):S1 k h':=D.frame _ _ _ st λx hx o e=>sb.extBut x o (λy=>nc (y ▸ hx)) e
theorem ab6(hz:IsZip s.heap z TI TO .none)(hi:IsPair s.heap TI (.ref i1) (.ref i2))(ho:IsPair s.heap TO a b)(oz:TO≠z)
  (go:∀h1,IsZip h1 z TI TO .ellipsis->Heap.SameBut z s.heap h1->wpAny (model prog w) A (nextOf (.ref i1))
   (λx s2=>IsPair s2.heap TO a b/\∀h3,IsPair h3 TO x b->Heap.SameBut TO s2.heap h3->wpAny (model prog w) A (nextOf (.ref i2))
    (λy s4=>IsPair s4.heap TO x b/\∀h5,IsPair h5 TO x y->Heap.SameBut TO s4.heap h5->IsZip h5 z TI TO .ellipsis/\∀h8,IsZip h8 z TI TO (rawInt h5.objs.size)->IsPair h8 h5.objs.size x y->h8.objs.size=h5.objs.size+1->
     (∀c o,c≠z->h5.get? c=some o->h8.get? c=some o)->Q (.done (.ret (.ref h5.objs.size))) {s4 with heap:=h8})
    (λe s4=>wpAny (model prog w) A (setField (.ref z) 0 .none) (λ_ s5=>E e s5) E s4) {s2 with heap:=h3})
   (λe s2=>wpAny (model prog w) A (setField (.ref z) 0 .none) (λ_ s3=>E e s3) E s2) {s with heap:=h1}) :
  wpAny (model prog w) A (Builtin.«zip.__next__» ⟨[.ref z],[]⟩) Q E s:=by
 change wpAny (model prog w) A (field (.ref z) 2>>=_) _ _ _
 apply a8;apply cb hz rfl (x:=.bool false) rfl
 change wpAny (model prog w) A (field (.ref z) 3>>=_) _ _ _
 apply a8;apply cb hz rfl (x:=.ref TI) rfl
 apply a8;apply cV hi rfl
 change wpAny (model prog w) A (ownedTupleIsFree (.ref z)>>=_) _ _ _
 apply a8
 rw[ownedTupleIsFree]
 apply a8;apply cb hz rfl (x:=.none) rfl
 apply aE
 rw[aJ rfl]
 apply a8;apply wpAny_rule
 apply a8;apply cb hz rfl (x:=.ref TO) rfl
 apply a8;apply cH hz (e9 _)
 intro h1 z1 b1
 apply a8
 simp only[List.zipIdx_cons,List.zipIdx_nil,List.forIn_cons,List.forIn_nil]
 apply a8;apply a8;apply wpAny_onRaise
 change wpAny (model prog w) A (nextOf (.ref i1)>>=_) _ _ _
 apply a8
 apply bQ (go h1 z1 b1) _ λ_ _ r=>r
 rintro x s2 ⟨o2,g2⟩
 apply aE
 apply a8;apply cV o2 rfl
 apply a8;apply wpAny_updateSeq_pair o2
 intro h3 o3 b3
 apply a8;apply wpAny_letGo;apply aE
 apply a8;apply a8;apply wpAny_onRaise
 change wpAny (model prog w) A (nextOf (.ref i2)>>=_) _ _ _
 apply a8
 apply bQ (g2 h3 o3 b3) _ λ_ _ r=>r
 rintro y s4 ⟨o4,g4⟩
 apply aE
 apply a8;apply cV o4 rfl
 apply a8;apply wpAny_updateSeq_pair o4
 intro h5 o5 b5
 obtain⟨z5,g5⟩:=g4 h5 o5 b5
 apply a8;apply wpAny_letGo;apply aE;apply aE
 apply a8;apply cV o5 rfl
 apply a8;refine wpAny_newTuple ?_ (by show 2<=sizeLine;decide)
 change wpAny (model prog w) A (ownedTupleHandOut (.ref z) (.ref h5.objs.size)>>=_) _ _ _
 apply a8
 rw[ownedTupleHandOut];have z6:IsZip (h5.push {cls:=.type "tuple",data:=.seq #[x,y]}) z TI TO .ellipsis:=a6 _ z5;have lt:z<h5.objs.size:=ax z5
 apply a8;apply cH z6 (e9 _)
 intro h7 z7 b7
 apply cH z7 (by show 1<5;decide)
 intro h8 z8 b8
 apply aE
 refine g5 h8 z8 (b8.extBut _ _ (Nat.ne_of_gt lt) (b7.extBut _ _ (Nat.ne_of_gt lt) (ay _ rfl))) ?_ λc o nc e=>b8.extBut _ _ nc (b7.extBut _ _ nc (a6 _ e));rw[b8.1,b7.1,bG]
theorem ae6{Q:Value->Shared->Prop}(D1:Draws prog w A i1 p n1 P1 S1)(D2:Draws prog w A i2 q n2 P2 S2)(ap:Ap z TI TO i1 i2 p q)(hz:IsZip s.heap z TI TO .none)(hi:IsPair s.heap TI (.ref i1) (.ref i2))(ho:IsPair s.heap TO a b)
  (s1:S1 k s.heap) (s2:S2 k s.heap) (k1:k<n1) (k2:k<n2)
  (hQ:∀x y h' tk,P1 k x->P2 k y->IsZip h' z TI TO (rawInt s.heap.objs.size)->IsPair h' TO x y->S1 (k+1) h'->S2 (k+1) h'->IsPair h' s.heap.objs.size x y->h'.objs.size=s.heap.objs.size+1->
   (∀c o,c≠z->c≠TO->c≠i1->c≠i2->s.heap.get? c=some o->h'.get? c=some o)->Q (.ref s.heap.objs.size) {s with heap:=h',toks:=tk}) :
  wpAny (model prog w) A (Builtin.«zip.__next__» ⟨[.ref z],[]⟩) (λfin s'=>∃v,fin=.done (.ret v)/\Q v s') E s:=by
 have ni1:i1≠z:=λe=>ap.z1 (e ▸ ap.m1);have ni2:i2≠z:=λe=>ap.z2 (e ▸ ap.m2);have no1:TO≠i1:=λe=>ap.o1 (e ▸ ap.m1);have no2:TO≠i2:=λe=>ap.o2 (e ▸ ap.m2);refine ab6 hz hi ho ap.oz λh1 z1 b1=>?_;refine D1.item k _ _ _ k1 (far (D:=D1) b1 ap.z1 s1) λx h2 t2 px st2 b2=>?_;refine⟨b2.extBut _ _ no1 (b1.extBut _ _ ap.oz ho),λh3 o3 b3=>?_⟩;refine D2.item k _ _ _ k2 (far (D:=D2) b3 ap.o2 (far (D:=D2) b2 ap.x1 (far (D:=D2) b1 ap.z2 s2))) λy h4 t4 py st4 b4=>?_;refine⟨b4.extBut _ _ no2 o3,λh5 o5 b5=>⟨b5.extBut _ _ ap.oz.symm (b4.extBut _ _ ni2.symm (b3.extBut _ _ ap.oz.symm (b2.extBut _ _ ni1.symm z1))),λh8 z8 t8 l8 k8=>⟨_,rfl,?_⟩⟩⟩
 have sz:h5.objs.size=s.heap.objs.size:=by rw[b5.1,b4.1,b3.1,b2.1,b1.1]
 have g1:S1 (k+1) h8:=D1.frame _ _ _ (far (D:=D1) b5 ap.o1 (far (D:=D1) b4 ap.x2 (far (D:=D1) b3 ap.o1 st2))) λc hc o e=>k8 c o (λy=>ap.z1 (y ▸ hc)) e;have g2:S2 (k+1) h8:=D2.frame _ _ _ (far (D:=D2) b5 ap.o2 st4) λc hc o e=>k8 c o (λy=>ap.z2 (y ▸ hc)) e;rw[sz]at z8 t8 l8 ⊢;exact hQ x y h8 t4 px py z8 (k8 _ _ ap.oz o5) g1 g2 t8 l8 λc o c1 c2 c3 c4 e=>k8 c o c1 (b5.extBut _ _ c2 (b4.extBut _ _ c4 (b3.extBut _ _ c2 (b2.extBut _ _ c3 (b1.extBut _ _ c1 e)))))
theorem ai1(D1:Draws prog w A i1 p n1 P1 S1)(D2:Draws prog w A i2 q n2 P2 S2)(ap:Ap z TI TO i1 i2 p q)(hz:IsZip s.heap z TI TO .none)(hi:IsPair s.heap TI (.ref i1) (.ref i2))(ho:IsPair s.heap TO a b)
  (s1:S1 k s.heap) (s2:S2 k s.heap) (kk:k=n1\/(k<n1/\k=n2))
  (hE:∀h' tk e,(∀c o,c≠z->c≠TO->c≠i1->c≠i2->s.heap.get? c=some o->h'.get? c=some o)->(∃o,h'.get? e=some o/\o.cls=.type "StopIteration")->E (.ref e) {s with heap:=h',toks:=tk}) :
  wpAny (model prog w) A (Builtin.«zip.__next__» ⟨[.ref z],[]⟩) Q E s:=by
 have ni1:i1≠z:=λe=>ap.z1 (e ▸ ap.m1);have ni2:i2≠z:=λe=>ap.z2 (e ▸ ap.m2);have no1:TO≠i1:=λe=>ap.o1 (e ▸ ap.m1);have stop:∀{h:Heap} {e:Addr},(∃o,h.get? e=some o/\o.cls=.type "StopIteration")->IsZip h z TI TO .ellipsis->e≠z:=λ{h e} ⟨o,eo,ec⟩ zz y=>by
  subst y;rw[zz]at eo;cases eo;simp at ec
 refine ab6 hz hi ho ap.oz λh1 z1 b1=>?_
 rcases kk with rfl|⟨k1,rfl⟩
 ·refine D1.done _ _ _ (far (D:=D1) b1 ap.z1 s1) λh2 e x2 st=>?_;have z2:IsZip h2 z TI TO .ellipsis:=x2 _ _ ni1.symm z1;have ne:=stop st z2;obtain⟨oe,f1,f2⟩:=st;refine cH z2 (e9 _) λh3 _ b3=>?_;exact hE h3 _ e (λc o c1 _ c3 _ y=>b3.extBut _ _ c1 (x2 _ _ c3 (b1.extBut _ _ c1 y))) ⟨oe,b3.extBut _ _ ne f1,f2⟩
 ·refine D1.item k _ _ _ k1 (far (D:=D1) b1 ap.z1 s1) λx h2 t2 px st2 b2=>?_;refine⟨b2.extBut _ _ no1 (b1.extBut _ _ ap.oz ho),λh3 o3 b3=>?_⟩;refine D2.done _ _ _ (far (D:=D2) b3 ap.o2 (far (D:=D2) b2 ap.x1 (far (D:=D2) b1 ap.z2 s2))) λh4 e x4 st=>?_;have z4:IsZip h4 z TI TO .ellipsis:=x4 _ _ ni2.symm (b3.extBut _ _ ap.oz.symm (b2.extBut _ _ ni1.symm z1));have ne:=stop st z4;obtain⟨oe,f1,f2⟩:=st;refine cH z4 (e9 _) λh5 _ b5=>?_;exact hE h5 _ e (λc o c1 c2 c3 c4 y=>b5.extBut _ _ c1 (x4 _ _ c4 (b3.extBut _ _ c2 (b2.extBut _ _ c3 (b1.extBut _ _ c1 y))))) ⟨oe,b5.extBut _ _ ne f1,f2⟩
theorem next_item{Q:Option Value->Shared->Prop}(D1:Draws prog w A.in1 i1 p n1 P1 S1)(D2:Draws prog w A.in1 i2 q n2 P2 S2)(ap:Ap z TI TO i1 i2 p q)(hz:IsZip s.heap z TI TO .none)(hi:IsPair s.heap TI (.ref i1) (.ref i2))(ho:IsPair s.heap TO a b)
  (s1:S1 k s.heap) (s2:S2 k s.heap) (k1:k<n1) (k2:k<n2)
  (hQ:∀x y h' tk,P1 k x->P2 k y->IsZip h' z TI TO (rawInt s.heap.objs.size)->IsPair h' TO x y->S1 (k+1) h'->S2 (k+1) h'->IsPair h' s.heap.objs.size x y->h'.objs.size=s.heap.objs.size+1->
   (∀c o,c≠z->c≠TO->c≠i1->c≠i2->s.heap.get? c=some o->h'.get? c=some o)->Q (some (.ref s.heap.objs.size)) {s with heap:=h',toks:=tk}):wpAny (model prog w) A (pyNext (.ref z)) Q E s:=by
 have ty:s.TypeIs (.ref z) "zip":=⟨_,hz,rfl⟩;rw[pyNext]
 apply a8;apply wpAny_attempt
 apply bH (name:=Str.ofString "__next__") ty dU
 apply cE dU ty F.entry_zip_next _ (F.args_zip_next_1 _)
 exact ae6 D1 D2 ap hz hi ho s1 s2 k1 k2 λx y h' tk c1 c2 c3 c4 c5 c6 c7 c8 c9=>aE (hQ x y h' tk c1 c2 c3 c4 c5 c6 c7 c8 c9)
theorem next_end(D1:Draws prog w A.in1 i1 p n1 P1 S1)(D2:Draws prog w A.in1 i2 q n2 P2 S2)(ap:Ap z TI TO i1 i2 p q)(hz:IsZip s.heap z TI TO .none)(hi:IsPair s.heap TI (.ref i1) (.ref i2))(ho:IsPair s.heap TO a b)
  (s1:S1 k s.heap) (s2:S2 k s.heap) (kk:k=n1\/(k<n1/\k=n2))
  (hQ:∀h' tk,(∀c o,c≠z->c≠TO->c≠i1->c≠i2->s.heap.get? c=some o->h'.get? c=some o)->Q none {s with heap:=h',toks:=tk}):wpAny (model prog w) A (pyNext (.ref z)) Q E s:=by
 have ty:s.TypeIs (.ref z) "zip":=⟨_,hz,rfl⟩;rw[pyNext]
 apply a8;apply wpAny_attempt
 apply bH (name:=Str.ofString "__next__") ty dU
 apply cE dU ty F.entry_zip_next _ (F.args_zip_next_1 _)
 refine ai1 D1 D2 ap hz hi ho s1 s2 kk ?_
 rintro h' tk e kp ⟨o,f1,f2⟩
 refine a8 (wpAny_isInstance (b:=true) (T := "StopIteration") ⟨o,f1,f2⟩ isSubtype_stop (aE (hQ h' tk kp)))
end
end ZP
namespace ZP
open PySem.Builtin PySem.Builtin.SmallTypes L2
inductive Srk where
 |tup (a:Addr)|lst (a:Addr)|str (x:Str)
def Srk.v:Srk->V
 |.tup a=>.ref a
 |.lst a=>.ref a
 |.str x=>.str x
def its(H:Hp):Srk->Option (List V)
 |.tup a=>match H a with|some (.tup vs)=>some vs|_=>none
 |.lst a=>match H a with|some (.lst vs)=>some vs|some (.frz _ (.lst vs))=>some vs|_=>none
 |.str x=>some (sr x)
def own(it:Addr)(t:Tok):Srk->Nat->Heap->Prop
 |.tup a,i,h=>h.IsTupleIter it a i
 |.lst a,i,h=>h.IsListIter it a i
 |.str x,i,h=>h.IsStrIter it (strIterType x) x t i
def iob(t:Tok):Srk->Obj
 |.tup a=>{cls:=.type "tuple_iterator",data:=.fields #[.ref a,.int 0 0]}
 |.lst a=>{cls:=.type "list_iterator",data:=.fields #[.ref a,.int 0 0]}
 |.str x=>{cls:=.type (strIterType x),data:=.fields #[.str x t,.int 0 0]}
def val(t:Tok):Srk->Value
 |.tup a=>.ref a
 |.lst a=>.ref a
 |.str x=>.str x t
def cont(h:Heap):Srk->List Value->Prop
 |.tup a,us=>h.IsTuple a us.toArray
 |.lst a,us=>h.IsList a us.toArray
 |.str x,us=>True
theorem aqg{h:Heap}(e:h.get? it=some (iob t k)):own it t k 0 h:=by
 cases k with
 |tup a=>exact⟨_,e,rfl,rfl⟩
 |lst a=>exact⟨_,e,rfl,rfl⟩
 |str x=>exact⟨_,e,rfl,rfl⟩
theorem a4y(o:own it t k i h):∃ob,h.get? it=some ob/\∀v,ob.data≠.cell v:=by
 cases k with
 |tup a=>obtain⟨ob,e,_,d⟩:=o;exact⟨ob,e,λv z=>by rw[d]at z;cases z⟩
 |lst a=>obtain⟨ob,e,_,d⟩:=o;exact⟨ob,e,λv z=>by rw[d]at z;cases z⟩
 |str x=>obtain⟨ob,e,_,d⟩:=o;exact⟨ob,e,λv z=>by rw[d]at z;cases z⟩
theorem a1q{h':Heap}(o:own it t k i h)(kk:∀ob,h.get? it=some ob->h'.get? it=some ob):own it t k i h':=by
 cases k with
 |tup a=>obtain⟨ob,e,r⟩:=o;exact⟨ob,kk _ e,r⟩
 |lst a=>obtain⟨ob,e,r⟩:=o;exact⟨ob,kk _ e,r⟩
 |str x=>obtain⟨ob,e,r⟩:=o;exact⟨ob,kk _ e,r⟩
section
variable{P:Program}{w:World}{H:Hp}{s:Shared}
theorem a4z(I:Inv X aA σ H s)(e:its H k=some xs):∃us,cont s.heap k us/\((∀x,k≠.str x)->Vals xs us):=by
 cases k with
 |tup a =>
  cases q:H a with
  |none=>simp[its,q]at e
  |some o =>
   cases o with
   |tup vs =>
    simp[its,q]at e;subst e
    obtain⟨us,r,t,_⟩:=I.tuple (SqT.of q);exact⟨us,t,λ_=>r⟩
   |_=>simp[its,q]at e
 |lst a =>
  cases q:H a with
  |none=>simp[its,q]at e
  |some o =>
   cases o with
   |lst vs =>
    simp[its,q]at e;subst e
    obtain⟨us,r,t,_⟩:=I.list (SqL.of q);exact⟨us,t.isList,λ_=>r⟩
   |frz ob u =>
    cases u with
    |lst vs =>
     simp[its,q]at e;subst e
     obtain⟨us,r,t,_⟩:=I.list (.inl (.inr ⟨_,q⟩));exact⟨us,t.isList,λ_=>r⟩
    |_=>simp[its,q]at e
   |_=>simp[its,q]at e
 |str x=>exact⟨[],True.intro,λn=>absurd rfl (n x)⟩
theorem a5a(I:Inv X aA σ H s)(e:its H k=some xs)(hn:H it=none) :
  ∃(cs:List Addr) (P1:Nat->Value->Prop) (S1:Nat->Heap->Prop),(∀A:Around,A.handled=none->Draws X.prog X.w A it (it::cs) xs.length P1 S1)/\(∀i,own it t k i s.heap->S1 i s.heap)/\(∀i h,S1 i h->own it t k i h)/\(∀c∈cs,H c≠none) /\
   ∀i v,P1 i v->∃x,xs[i]? = some x/\RelV x v:=by
 cases k with
 |tup a =>
  obtain⟨us,c,r⟩:=a4z I e;have r:=r (by intro x z;cases z)
  have ha:H a≠none:=λz=>by simp[its,z]at e
  have l:us.toArray.size=xs.length:=by rw[ag,r.length]
  refine⟨[a],λi v=>us.toArray[i]? = some v,λi h=>h.IsTupleIter it a i/\h.IsTuple a us.toArray,λA hA=>?_,λi o=>⟨o,c⟩,λi h z=>z.1,λc hc=>by rw[aL.mp hc];exact ha,λi v z=>?_⟩
  ·have:=ab5 (prog:=X.prog) (w:=X.w) hA it a (λy=>ha (y ▸ hn)) us.toArray
   rw[l]at this;exact this
  ·have z':us[i]? = some v:=by simpa using z
   have hi:i<xs.length:=by rw[r.length];exact(a7.mp z').1
   obtain⟨u,e1,e2⟩:=r.get (ae hi);rw[z']at e1;cases e1
   exact⟨_,ae hi,e2⟩
 |lst a =>
  obtain⟨us,c,r⟩:=a4z I e;have r:=r (by intro x z;cases z)
  have ha:H a≠none:=λz=>by simp[its,z]at e
  have l:us.toArray.size=xs.length:=by rw[ag,r.length]
  refine⟨[a],λi v=>us.toArray[i]? = some v,λi h=>h.IsListIter it a i/\h.IsList a us.toArray,λA hA=>?_,λi o=>⟨o,c⟩,λi h z=>z.1,λc hc=>by rw[aL.mp hc];exact ha,λi v z=>?_⟩
  ·have:=Draws.list (prog:=X.prog) (w:=X.w) hA it a (λy=>ha (y ▸ hn)) us.toArray
   rw[l]at this;exact this
  ·have z':us[i]? = some v:=by simpa using z
   have hi:i<xs.length:=by rw[r.length];exact(a7.mp z').1
   obtain⟨u,e1,e2⟩:=r.get (ae hi);rw[z']at e1;cases e1
   exact⟨_,ae hi,e2⟩
 |str x =>
  cases e
  have l:(sr x).length=x.cps.size:=by simp[sr]
  refine⟨[],λi v=>∃c u,x.cps[i]? = some c/\v=.str ⟨#[c]⟩ u,λi h=>h.IsStrIter it (strIterType x) x t i,λA hA=>?_,λi o=>o,λi h z=>z,λc hc=>(by cases hc),λi v z=>?_⟩
  ·rw[l]
   cases ha:x.cps.all (· < 128)
   ·have:=Draws.strWide (prog:=X.prog) (w:=X.w) hA it x t
    simpa[strIterType,ha] using this
   ·have:=Draws.strAscii (prog:=X.prog) (w:=X.w) hA it x t
    simpa[strIterType,ha] using this
  ·obtain⟨c,u,e1,rfl⟩:=z;exact⟨.str ⟨#[c]⟩,by simp[sr,e1],⟨_,rfl⟩⟩
end
def ItZ(k1 k2:Srk):It where
 go:=λi H=>∃xs ys x y,its H k1=some xs/\its H k2=some ys/\xs[i]? = some x/\ys[i]? = some y
 yld:=λi H v H'=>∃xs ys x y p,its H k1=some xs/\its H k2=some ys/\xs[i]? = some x/\ys[i]? = some y/\H p=none/\v=.ref p/\H'=upd H p (.tup [x,y])
 stop:=λi H=>∃xs ys,its H k1=some xs/\its H k2=some ys/\(i=xs.length\/(i<xs.length/\i=ys.length))
def tnZ(z TI TO i1 i2:Addr)(t1 t2:Tok)(k1 k2:Srk)(i:Nat)(h:Heap):Prop :=
 IsZip h z TI TO .none/\IsPair h TI (.ref i1) (.ref i2)/\(∃a b,IsPair h TO a b)/\own i1 t1 k1 i h/\own i2 t2 k2 i h
structure Far (z TI TO i1 i2:Addr):Prop where
 a:TI≠z
 b:TO≠z
 c:i1≠z
 d:i2≠z
 e:TI≠TO
 f:TI≠i1
 g:TI≠i2
 h:TO≠i1
 i:TO≠i2
 j:i1≠i2
theorem ab7{X:Cx}{aA:List (Addr×Obj)}{σ:St}{H:Hp}{s:Shared}{h':Heap}{t':Nat}{ch:List Addr}(I:Inv X aA σ H s)(hf:∀b∈ch,a4f X aA H b)(k:∀b o,b∉ch->s.heap.get? b=some o->h'.get? b=some o) :
  Inv X aA σ H {s with heap:=h',toks:=t' }:=by
 have nit:∀b u,H b=some u->b∉ch:=λb u e z=>by rw[(hf b z).1]at e;cases e
 refine I.step (g':=s.gens) (d':=s.drawn) (ch:=ch) (λb hb=>?_) (λb o _ _ hc e _=>k b o hc e) (λb o _ _ hc e _=>⟨o.slots,k b o hc e⟩) (λ_ _ _ _ n=>n) (λb o hc e=>⟨o,k b o hc e⟩) (λ_ _ e=>e) (λ_ _ _ e=>e)
  (λb ps e=>⟨#[],by rw[e];simp⟩) (λm hm=>?_) (λb u e=>?_) I.bare
 ·obtain⟨_,f1,_,f3,f4,f5⟩:=hf b hb;exact⟨f3,f1,f4,f5⟩
 ·obtain⟨o,es,ep,ho,r⟩:=hm;exact⟨o,es,ep,k _ o (λz=>(hf _ z).2.1 rfl) ho,r⟩
 ·refine(I.hok b u e).stay (λc v hc q=>k c v ?_ q) (λ_ q=>q) λ_ _ q=>q
  rcases hc with z|z
  ·rw[z];exact nit b u e
  ·exact nit c _ z
theorem ae7{P:Program}{w:World}{K:Fg}{elts:List Expr}{x1:Nat}{pos:Pos}{z TI TO i1 i2:Addr}{t1 t2:Tok}{k1 k2:Srk}(f:Far z TI TO i1 i2):Turn P w K (.Tuple elts x1 pos) (ItZ k1 k2) [z,TI,TO,i1,i2] z (tnZ z TI TO i1 i2 t1 t2 k1 k2) where
 mem:=by simp
 obj:=λi h st b hb=>by
  obtain⟨h1,h2,⟨a,b',h3⟩,h4,h5⟩:=st;simp only[aO,aU,bY]at hb
  rcases hb with rfl|rfl|rfl|rfl|rfl
  ·exact⟨_,h1,λv z=>(by cases z)⟩
  ·exact⟨_,h2,λv z=>(by cases z)⟩
  ·exact⟨_,h3,λv z=>(by cases z)⟩
  ·exact a4y h4
  ·exact a4y h5
 keep:=λi h h' st k=>by
  obtain⟨h1,h2,⟨a,b',h3⟩,h4,h5⟩:=st;exact⟨k z (by simp) _ h1,k TI (by simp) _ h2,⟨a,b',k TO (by simp) _ h3⟩,a1q h4 λob e=>k i1 (by simp) ob e,a1q h5 λob e=>k i2 (by simp) ob e⟩
 item:=by
  intro X hP hw hK hc i aA s σ H E I hf st hg
  subst hP hw hK;obtain⟨xs,ys,x,y,e1,e2,g1,g2⟩:=hg;obtain⟨h1,h2,⟨a,b,h3⟩,h4,h5⟩:=st;have n:∀c∈[z,TI,TO,i1,i2],H c=none:=λc hc=>(hf c hc).1;obtain⟨cs,P1,S1,D1,a1,b1,c1,d1⟩:=a5a I (t:=t1) e1 (n i1 (by simp))
  obtain⟨ds,P2,S2,D2,a2,b2,c2,d2⟩:=a5a I (t:=t2) e2 (n i2 (by simp))
  have hd:=I.ok.hd hc;have out1:∀c,H c=none->c∉cs:=λc e z=>c1 c z e;have out2:∀c,H c=none->c∉ds:=λc e z=>c2 c z e;have ap:Ap z TI TO i1 i2 (i1::cs) (i2::ds):=⟨by simp,by simp,by simp[f.c.symm,out1 z (n z (by simp))],by simp[f.d.symm,out2 z (n z (by simp))],by simp[f.h,out1 TO (n TO (by simp))],by simp[f.i,out2 TO (n TO (by simp))],f.b,by simp[f.j,out2 i1 (n i1 (by simp))],by simp[f.j.symm,out1 i2 (n i2 (by simp))]⟩
  refine next_item (D1 X.A.in1 hd) (D2 X.A.in1 hd) ap h1 h2 h3 (a1 i h4) (a2 i h5) (a7.mp g1).1 (a7.mp g2).1 λu v h' tk pu pv z' to' s1' s2' pr sz kp=>?_;obtain⟨x',q1,r1⟩:=d1 i u pu;obtain⟨y',q2,r2⟩:=d2 i v pv;rw[g1]at q1;cases q1
  rw[g2]at q2;cases q2
  refine⟨_,rfl,wpAny_letOwnedTupleGo_zip z' λh2' z2' sb=>?_⟩;have hp:H s.heap.objs.size=none:=I.hok.fresh (ai _);have lt:∀c∈[z,TI,TO,i1,i2],c<s.heap.objs.size:=λc hc=>by
   simp only[aO,aU,bY]at hc
   rcases hc with rfl|rfl|rfl|rfl|rfl
   ·exact ax h1
   ·exact ax h2
   ·exact ax h3
   ·obtain⟨_,e,_⟩:=a4y h4;exact ax e
   ·obtain⟨_,e,_⟩:=a4y h5;exact ax e
  have all:∀c o,c∉[z,TI,TO,i1,i2]->s.heap.get? c=some o->h2'.get? c=some o:=λc o nc e=>by
   simp only[aO,aU,bY,not_or]at nc;exact(sb.2 c nc.1).trans (kp c o nc.1 nc.2.2.1 nc.2.2.2.1 nc.2.2.2.2 e)
  have nT:∀c∈[z,TI,TO,i1,i2],c≠s.heap.objs.size:=λc hc=>br (lt c hc);have I0:Inv X aA σ (upd H s.heap.objs.size (.tup [x,y])) {s with heap:=s.heap.push {cls:=.type "tuple",data:=.seq #[u,v]} } :=
   I.laid (t':=s.toks) (o:=.tup [x,y]) (λb o e=>a6 _ e) (ai _) ⟨by show 2<=sizeLine;decide,[u,v],.cons r1 (.cons r2 .nil),⟨_,ay _ rfl,⟨rfl,rfl⟩,_,rfl⟩⟩
  have I1:Inv X aA σ (upd H s.heap.objs.size (.tup [x,y])) {s with heap:=h2',toks:=tk}:=by
   refine ab7 (s:={s with heap:=s.heap.push {cls:=.type "tuple",data:=.seq #[u,v]} }) (ch:=[z,TI,TO,i1,i2]) I0 (λb hb=>?_) λc o nc e=>?_
   ·obtain⟨f0,f1⟩:=hf b hb;exact⟨by rw[j6 (nT b hb)];exact f0,f1⟩
   ·rcases Heap.get?_push_cases e with⟨rfl,rfl⟩|e
    ·exact(sb.2 _ (nT z (by simp)).symm).trans pr
    ·exact all c o nc e
  refine⟨.ref s.heap.objs.size,_,I1,rfl,⟨xs,ys,x,y,_,e1,e2,g1,g2,hp,rfl,rfl⟩,⟨z2',?_,⟨u,v,(sb.2 _ f.b).trans to'⟩,a1q (b1 _ _ s1') λob e=>(sb.2 _ f.c).trans e,a1q (b2 _ _ s2') λob e=>(sb.2 _ f.d).trans e⟩,λb hb=>?_⟩
  ·exact(sb.2 _ f.a).trans (kp TI _ f.a f.e f.f f.g h2)
  ·rw[j6 (nT b hb)];exact n b hb
 done:=by
  intro X hP hw hK hc i aA s σ H E I hf st hg
  subst hP hw hK;obtain⟨xs,ys,e1,e2,g⟩:=hg;obtain⟨h1,h2,⟨a,b,h3⟩,h4,h5⟩:=st;have n:∀c∈[z,TI,TO,i1,i2],H c=none:=λc hc=>(hf c hc).1;obtain⟨cs,P1,S1,D1,a1,b1,c1,d1⟩:=a5a I (t:=t1) e1 (n i1 (by simp))
  obtain⟨ds,P2,S2,D2,a2,b2,c2,d2⟩:=a5a I (t:=t2) e2 (n i2 (by simp))
  have hd:=I.ok.hd hc;have out1:∀c,H c=none->c∉cs:=λc e z=>c1 c z e;have out2:∀c,H c=none->c∉ds:=λc e z=>c2 c z e;have ap:Ap z TI TO i1 i2 (i1::cs) (i2::ds):=⟨by simp,by simp,by simp[f.c.symm,out1 z (n z (by simp))],by simp[f.d.symm,out2 z (n z (by simp))],by simp[f.h,out1 TO (n TO (by simp))],by simp[f.i,out2 TO (n TO (by simp))],f.b,by simp[f.j,out2 i1 (n i1 (by simp))],by simp[f.j.symm,out1 i2 (n i2 (by simp))]⟩
  refine next_end (D1 X.A.in1 hd) (D2 X.A.in1 hd) ap h1 h2 h3 (a1 i h4) (a2 i h5) g λh' tk kp=>⟨rfl,ab7 I hf λc o nc e=>?_⟩;simp only[aO,aU,bY,not_or]at nc;exact kp c o nc.1 nc.2.2.1 nc.2.2.2.1 nc.2.2.2.2 e
 self:=λ_ _ _ _ _ st h=>wpAny_pyIter_zip st.1 h
theorem ab8(c:cont h k us)(o:Obj):cont (h.push o) k us:=by
 cases k with
 |tup a=>obtain⟨ob,e,r⟩:=c;exact⟨ob,a6 _ e,r⟩
 |lst a=>obtain⟨ob,e,r⟩:=c;exact⟨ob,a6 _ e,r⟩
 |str x=>trivial
theorem a8b{s:Shared}(c:cont s.heap k us)(q:Q (.ref s.heap.objs.size) {s with heap:=s.heap.push (iob t k)}) :
  wpAny (model prog w) A (pyIter (val t k)) Q E s:=by
 cases k with
 |tup a=>exact wpAny_pyIter_tuple c q
 |lst a=>exact et c q
 |str x=>exact wpAny_pyIter_strU q
def mk2(h:Heap)(t1 t2:Tok)(k1 k2:Srk):Heap:=(h.push (iob t1 k1)).push (iob t2 k2)
def mk5(h:Heap)(t1 t2:Tok)(k1 k2:Srk):Heap :=
 (((mk2 h t1 t2 k1 k2).push {cls:=.type "tuple",data:=.seq #[.ref h.objs.size,.ref (h.objs.size+1)]}).push {cls:=.type "tuple",data:=.seq #[.none,.none]}).push
  {cls:=.type "zip",data:=.fields #[.none,.bool false,.bool false,.ref (h.objs.size+2),.ref (h.objs.size+3)]}
theorem ae8(t1 t2:Tok)(k1 k2:Srk)(us1 us2:List Value):Meets (Builtin.«zip.__new__» ⟨[.type "zip",val t1 k1,val t2 k2],[]⟩)
  (λ_ R s=>cont s.heap k1 us1/\cont s.heap k2 us2/\R (.ok (.ret (.ref (s.heap.objs.size+4)))) {s with heap:=mk5 s.heap t1 t2 k1 k2}) :=
 .of_wp λprog w A R s h=>by
  obtain⟨hp,g,d,tk,os⟩:=s;obtain⟨c1,c2,h⟩:=h;have sub:=sub_zip;have c1':cont (Shared.heap ⟨hp,g,d,tk,os⟩) k1 us1:=c1;have c2':cont (Shared.heap ⟨hp.push (iob t1 k1),g,d,tk,os⟩) k2 us2:=ab8 c2 _
  wp_walk using a8b (t:=t1) c1',a8b (t:=t2) c2'
  refine⟨_,rfl,?_⟩;simpa[mk5,mk2,bG,ownedTupleFields,Nat.add_assoc] using h
theorem ap3(n:Nat):Far (n+4) (n+2) (n+3) n (n+1):=by
 refine⟨?_,?_,?_,?_,?_,?_,?_,?_,?_,?_⟩<;>(intro z;have z:(_:Nat)=_:=z;omega)
theorem as4(n b:Nat)(h:b∈[n+4,n+2,n+3,n,n+1]):n<=b:=by
 simp only[aO,aU,bY]at h;omega
section
variable{X:Cx}{elts:List Expr}{x1:Nat}{tpos:Pos}
def as5(ta:TA):TI:=λσ H R=>ta σ H λvs H1=>∃k1 k2 xs ys,vs=[Srk.v k1,Srk.v k2]/\its H1 k1=some xs/\its H1 k2=some ys/\R (ItZ k1 k2) H1
theorem afq{k:Srk}(r:RelV k.v u):∃t,u=val t k:=by
 cases k with
 |tup a=>cases r;exact⟨0,rfl⟩
 |lst a=>cases r;exact⟨0,rfl⟩
 |str x=>obtain⟨t,rfl⟩:=r;exact⟨t,rfl⟩
theorem ala(hg:Gl X "zip")(hm:X.mg "zip" = none)(hb:bootBuiltins "zip" = some (.type "zip"))(ha:PA X [e1,e2] ta)
  (h1:starEach [e1,e2] X.env=[(false,eval e1 X.env),(false,eval e2 X.env)]:=by rfl) (h2:starEach [e2] X.env=[(false,eval e2 X.env)]:=by rfl):PI X (.Tuple elts x1 tpos) (.Call (.Name "zip" p) [e1,e2] [] pos) (as5 ta):=by
 intro aA s σ H R I h
 refine cG (a5m I hg hm hb ?_ (by decide) (by decide))
 refine cI (thn (ha pos aA s σ H _ I h) λus s1 ⟨vs,H1,I1,r1,q1⟩=>?_) (by rw[h1,h2]) (by rw[h2];rfl)
 obtain⟨k1,k2,xs,ys,rfl,e1,e2,q⟩:=q1;obtain⟨v1,v2,rfl,rv1,rv2⟩:=vals2 r1;obtain⟨t1,rfl⟩:=afq rv1;obtain⟨t2,rfl⟩:=afq rv2;obtain⟨us1,c1,_⟩:=a4z I1 e1;obtain⟨us2,c2,_⟩:=a4z I1 e2;refine callType_new F.called_zip (by decide) (F.typeCall_zip_2 _ _) (F.newCall_zip_2 _ _) (λobj=>F.args_object_init_3 obj _ _) F.entry_zip_new (ae8 t1 t2 k1 k2 us1 us2) ⟨c1,c2,?_⟩
 have z2:(mk2 s1.heap t1 t2 k1 k2).objs.size=s1.heap.objs.size+2:=by simp[mk2,bG]
 have at0:(mk5 s1.heap t1 t2 k1 k2).get? s1.heap.objs.size=some (iob t1 k1):=by
  unfold mk5 mk2;exact a6 _ (a6 _ (a6 _ (a6 _ (ay _ (by cases k1<;>rfl)))))
 have at1:(mk5 s1.heap t1 t2 k1 k2).get? (s1.heap.objs.size+1)=some (iob t2 k2):=by
  unfold mk5 mk2;have:=ay (o:=iob t2 k2) (s1.heap.push (iob t1 k1)) (by cases k2<;>rfl)
  rw[bG]at this;exact a6 _ (a6 _ (a6 _ this))
 have at2:IsPair (mk5 s1.heap t1 t2 k1 k2) (s1.heap.objs.size+2) (.ref s1.heap.objs.size) (.ref (s1.heap.objs.size+1)):=by
  unfold mk5;rw[<-z2];exact a6 _ (a6 _ (ay _ rfl))
 have at3:IsPair (mk5 s1.heap t1 t2 k1 k2) (s1.heap.objs.size+3) .none .none:=by
  unfold mk5;have:=ay (o:={cls:=.type "tuple",data:=.seq #[.none,.none]}) ((mk2 s1.heap t1 t2 k1 k2).push {cls:=.type "tuple",data:=.seq #[.ref s1.heap.objs.size,.ref (s1.heap.objs.size+1)]}) rfl;rw[bG,z2]at this;exact a6 _ this
 have at4:IsZip (mk5 s1.heap t1 t2 k1 k2) (s1.heap.objs.size+4) (s1.heap.objs.size+2) (s1.heap.objs.size+3) .none:=by
  unfold mk5;have:=ay (o:={cls:=.type "zip",data:=.fields #[.none,.bool false,.bool false,.ref (s1.heap.objs.size+2),.ref (s1.heap.objs.size+3)]}) (((mk2 s1.heap t1 t2 k1 k2).push {cls:=.type "tuple",data:=.seq #[.ref s1.heap.objs.size,.ref (s1.heap.objs.size+1)]}).push {cls:=.type "tuple",data:=.seq #[.none,.none]}) rfl;rw[bG,bG,z2]at this;exact this
 have keepA:∀b o,s1.heap.get? b=some o->(mk5 s1.heap t1 t2 k1 k2).get? b=some o:=λb o e=>by
  unfold mk5 mk2;exact a6 _ (a6 _ (a6 _ (a6 _ (a6 _ e))))
 have I2:Inv X aA σ H1 {s1 with heap:=mk5 s1.heap t1 t2 k1 k2}:=I1.kept (t':=s1.toks) keepA
 refine⟨⟨_,at4,rfl⟩,?_⟩;refine wpAny_pyIter_zip (s:={s1 with heap:=mk5 s1.heap t1 t2 k1 k2}) at4 ?_
 refine⟨s1.heap.objs.size+4,[s1.heap.objs.size+4,s1.heap.objs.size+2,s1.heap.objs.size+3,s1.heap.objs.size,s1.heap.objs.size+1],tnZ _ _ _ _ _ t1 t2 k1 k2,ItZ k1 k2,H1,rfl,I2,ae7 (ap3 s1.heap.objs.size),
  ⟨at4,at2,⟨_,_,at3⟩,aqg at0,aqg at1⟩,λb hb=>?_,q⟩
 have:s1.heap.objs.size<=b:=as4 _ b hb
 exact I1.fpOk this (I1.hok.fresh this)
end
end ZP
namespace MI
open L2 ZP
def srcOf(d:D)(h:Hd):Option (List D×(Hd->Prop)):=match d with
 |.tup xs=>some (xs,λ_=>True)
 |.rol xs=>some (xs,λ_=>True)
 |.str x=>some (qx x,λ_=>True)
 |.ref i=>(match h[i]? with|some (.lst xs)=>some (xs,λh=>h[i]? = some (.lst xs))|_=>none)
 |_=>none
def anw(x y:D)(h:Hd):R Itm:=match srcOf x h,srcOf y h with
 |some (xs,c1),some (ys,c2)=>.ok ⟨(xs.zip ys).map λp=>.tup [p.1,p.2],λh=>c1 h/\c2 h⟩ h
 |_,_=>.no
def aj0(f g:SE):SI:=λτ h=>(f τ h).bind λx h1=>(g τ h1).bind λy h2=>anw x y h2
theorem afr(r:Rep K ι H v d)(hr:HRep K ι H h)(e:srcOf d h=some (xs,ck)) :
  ∃k:Srk,v=k.v/\ck h/\∀ι' H' h',Gr ι H ι' H'->HRep K ι' H' h'->ck h'->∃vs,its H' k=some vs/\Reps K ι' H' vs xs:=by
 cases r with
 |@tup a vs ys ha rs =>
  cases e
  exact⟨.tup a,rfl,True.intro,λι' H' h' g _ _=>⟨vs,by simp[its,g.tup _ _ ha],rs.mono g⟩⟩
 |@rol a vs ys ha rs =>
  cases e
  refine⟨.lst a,rfl,True.intro,λι' H' h' g _ _=>⟨vs,?_,rs.mono g⟩⟩;obtain⟨o,q⟩:=ha.mono g;simp[its,q]
 |str x =>
  cases e
  exact⟨.str x,rfl,True.intro,λι' H' h' g _ _=>⟨_,rfl,a0x x⟩⟩
 |@ref a i ha =>
  obtain⟨ob,e1,e2⟩:=hr.at ha
  cases ob with
  |lst zs =>
   simp only[srcOf,e1]at e;cases e
   refine⟨.lst a,rfl,e1,λι' H' h' g hr' c=>?_⟩;obtain⟨us,q1,q2⟩:=hr'.obj i a _ (g.at ha) c;exact⟨us,by simp[its,q1],q2⟩
  |dK _=>simp only[srcOf,e1]at e;cases e
  |dT _=>simp only[srcOf,e1]at e;cases e
  |ins _ _=>simp only[srcOf,e1]at e;cases e
  |dN _=>simp only[srcOf,e1]at e;cases e
 |_=>cases e
theorem alb(hg:Gl X "zip")(hm:X.mg "zip" = none)(hb:bootBuiltins "zip" = some (.type "zip"))(ha:ME X E e1 f)(hb':ME X E e2 g)
  (h1:starEach [e1,e2] X.env=[(false,eval e1 X.env),(false,eval e2 X.env)]:=by rfl) (h2:starEach [e2] X.env=[(false,eval e2 X.env)]:=by rfl) :
  MI X E (.Tuple elts x1 tpos) (.Call (.Name "zip" p) [e1,e2] [] pos) (aj0 f g):=by
 rintro aA s σ H Rr I ⟨ι,τ,h,S,Rh,o⟩
 refine ala hg hm hb (a2a ha (a2a hb' a7u (by rw[h2];rfl)) (by rw[h1,h2])) h1 h2 aA s σ H Rr I ?_
 refine⟨ι,τ,h,S,Rh,bz o λd h1 ι1 H1 v g1 r1 hr1 o1=>?_⟩;refine⟨ι1,τ,h1,S.mono g1,hr1,bz o1 λd2 h2 ι2 H2 u g2 r2 hr2 o2=>?_⟩;unfold anw at o2
 split at o2
 ·rename_i xs c1 ys c2 q1 q2;obtain⟨k1,rfl,k1c,k1f⟩:=afr (r1.mono g2) hr2 q1;obtain⟨k2,rfl,k2c,k2f⟩:=afr r2 hr2 q2;obtain⟨vs1,w1,w2⟩:=k1f ι2 H2 h2 (.refl _ _) hr2 k1c;obtain⟨vs2,w3,w4⟩:=k2f ι2 H2 h2 (.refl _ _) hr2 k2c;refine⟨k1,k2,vs1,vs2,rfl,w1,w3,o2 ι2 H2 _ (.refl _ _) ?_ hr2⟩
  intro ι3 H3 h3 g3 hr3 c
  obtain⟨us1,a1,a2⟩:=k1f ι3 H3 h3 g3 hr3 c.1;obtain⟨us2,a3,a4⟩:=k2f ι3 H3 h3 g3 hr3 c.2;refine⟨λi d ed=>?_,us1,us2,a1,a3,?_⟩
  ·simp only[bM,aw]at ed;obtain⟨⟨x,y⟩,ez,rfl⟩:=ed;obtain⟨ex,ey⟩:=eh.mp ez;obtain⟨v1,b1,b2⟩:=a2.get ex;obtain⟨v2,b3,b4⟩:=a4.get ey;refine⟨⟨us1,us2,v1,v2,a1,a3,b1,b3⟩,λx H' yl=>?_⟩;obtain⟨xs',ys',x',y',p,c1,c2,c3,c4,c5,rfl,rfl⟩:=yl;rw[a1]at c1;cases c1
   rw[a3]at c2;cases c2
   rw[b1]at c3;cases c3
   rw[b3]at c4;cases c4
   exact⟨yh c5 _,.tup qp (.cons (b2.mono (yh c5 _)) (.cons (b4.mono (yh c5 _)) .nil)),hr3.aside c5 _⟩
  ·rw[aS,List.length_zip,a2.len,a4.len];omega
 ·exact o2.elim
theorem alc:bootBuiltins "zip" = some (.type "zip"):=by first|exact PySem.boot_zip|exact PyProof.Rows.boot_zip|rfl
end MI
namespace MI
open L2
section
variable{P:Program}{w:World}{K:Fg}{mg:Str->Option Value}{base:Heap}
theorem a5b:FnOk P w K mg base CX0 k f fd ps (jx K ps.length λ_ _=>.no) :=
 ⟨λvs H Q E h=>h.1,λA outer s H args us vs Q E hr he hb hv hs=>by obtain⟨_,ι,ds,h,_,_,o⟩:=hs;exact o.elim⟩
end
def FrzOf(L:List Addr)(H H2:Hp):Prop:=∀a,(a∉L->H2 a=H a)/\(a∈L->∃o u,H a=some u/\H2 a=some (.frz o u))
def a9d(H:Hp)(L:List Addr):Prop:=∀a∈L,(∃xs,H a=some (.lst xs))\/(∃kvs,H a=some (.dK kvs))\/(∃kvs,H a=some (.dT kvs))\/(∃C dx fs,H a=some (.ins C dx fs))\/∃φ,H a=some (.ext φ)
def still:HO->Prop
 |.lst _=>False|.dK _=>False|.dT _=>False|.ins _ _ _=>False|.ext _=>False
 |_=>True
theorem FrzOf.still(f:FrzOf L H H2)(ab:a9d H L)(e:H a=some u)(st:MI.still u):H2 a=some u:=by
 rw[(f a).1 λz=>?_]
 ·exact e
 ·rcases ab a z with⟨_,q⟩|⟨_,q⟩|⟨_,q⟩|⟨_,_,_,q⟩|⟨_,q⟩<;>(rw[e]at q;cases q;exact st)
theorem Inv.frz{X:Cx}{aA:List (Addr×Obj)}{σ:St}{H:Hp}{s:Shared}{L:List Addr}(I:Inv X aA σ H s)(ab:a9d H L):∃H2,FrzOf L H H2/\Inv X aA σ H2 s:=by
 have obj:∀a∈L,∀u,H a=some u->∃o,s.heap.get? a=some o:=λa ha u e=>by
  rcases ab a ha with⟨_,q⟩|⟨_,q⟩|⟨_,q⟩|⟨_,_,_,q⟩|⟨_,q⟩
  ·obtain⟨_,_,_,_,z⟩:=I.hok a _ q;exact⟨_,z⟩
  ·obtain⟨_,_,_,_,z⟩:=I.hok a _ q;obtain⟨o,_,_,z,_⟩:=z;exact⟨o,z⟩
  ·obtain⟨_,_,_,_,o,_,_,z,_⟩:=I.hok a _ q;exact⟨o,z⟩
  ·obtain⟨_,_,_,z,_⟩:=I.hok a _ q;exact⟨_,z⟩
  ·obtain⟨_,z,_⟩:=I.hok a _ q;exact z
 let H2:Hp:=λa=>if a∈L then (match s.heap.get? a,H a with|some o,some u=>some (.frz o u)|_,w=>w) else H a
 have f:FrzOf L H H2:=λa=>⟨λh=>by simp[H2,h],λh=>by
  obtain⟨u,e⟩:∃u,H a=some u:=by
   rcases ab a h with⟨_,q⟩|⟨_,q⟩|⟨_,q⟩|⟨_,_,_,q⟩|⟨_,q⟩<;>exact⟨_,q⟩
  obtain⟨o,eo⟩:=obj a h u e;exact⟨o,u,e,by simp[H2,h,e,eo]⟩⟩
 refine⟨H2,f,?_⟩;have mv:∀a u,ObjOk X.prog X.w H s.heap a u->ObjOk X.prog X.w H2 s.heap a u:=λa u x=>x.stay (λb v _ q=>q) (λc q=>f.still ab q True.intro) λc xs q=>f.still ab q True.intro;have ok:HOk X.prog X.w H2 s.heap:=λa u e=>by
  by_cases hl:a∈L
  ·obtain⟨u0,e0⟩:∃u,H a=some u:=by
    rcases ab a hl with⟨_,q⟩|⟨_,q⟩|⟨_,q⟩|⟨_,_,_,q⟩|⟨_,q⟩<;>exact⟨_,q⟩
   obtain⟨o,eo⟩:=obj a hl u0 e0;have e':H2 a=some (.frz o u0):=by simp[H2,hl,e0,eo]
   rw[e']at e;cases e
   exact⟨eo,mv a u0 (I.hok a u0 e0)⟩
  ·rw[(f a).1 hl]at e;exact mv a u (I.hok a u e)
 have fn:∀b,H b=none->H2 b=none:=λb n=>by
  rw[(f b).1 λz=>?_]
  ·exact n
  ·rcases ab b z with⟨_,q⟩|⟨_,q⟩|⟨_,q⟩|⟨_,_,_,q⟩|⟨_,q⟩<;>(rw[n]at q;cases q)
 have un:Un X.fs [] H H2 s.heap s.heap:=⟨λb o q _ _ _=>q,λb o q _ _ _=>⟨o.slots,q⟩,λb o _ n _=>fn b n,λb o q _=>⟨o,q⟩,λb xs q=>f.still ab q True.intro,λb o u q=>f.still ab q True.intro,λb ps q=>⟨#[],by rw[f.still ab q True.intro];simp⟩⟩
 exact I.un (t':=s.toks) un ok
theorem ab9(h:PE X e t):PE X e (λσ H Q=>t σ H λv H1=>∃L,a9d H1 L/\∀H2,FrzOf L H1 H2->Q v H2):=λaA s σ H Q I q =>
 thn (h aA s σ H _ I q) λu s' ⟨v,H1,I1,r,L,ab,k⟩=>let ⟨H2,f,I2⟩:=Inv.frz I1 ab; ⟨v,H2,I2,r,k H2 f⟩
def yc{α β:Type}(f:α->Option β):List α->Option (List β)
 |[]=>some []
 |x::xs=>match f x,yc f xs with|some y,some ys=>some (y::ys)|_,_=>none
open Classical in
noncomputable def a1l(n:Nat)(h:Hd):Nat->D->Option D
 |0,_=>none
 |k+1,d=>if clo n d then some d else match d with
  |.tup xs=>(yc (a1l n h k) xs).map .tup
  |.rol xs=>(yc (a1l n h k) xs).map .rol
  |.scr xs=>(yc (a1l n h k) xs).map .scr
  |.rod ks xs=>(yc (a1l n h k) xs).map (.rod ks)
  |.rdT ks xs=>(yc (a1l n h k) xs).map (.rdT ks)
  |.ins c ks xs=>(yc (a1l n h k) xs).map (.ins c ks)
  |.ref i=>match h[i]? with
   |some (.lst xs)=>(yc (a1l n h k) xs).map .rol
   |some (.dK kvs)=>(yc (a1l n h k) (kvs.map (·.2))).map (.rod (kvs.map (·.1)))
   |some (.dT kvs)=>(yc (a1l n h k) (kvs.map (·.2))).map (.rdT (kvs.map (·.1)))
   |some (.ins c kvs)=>(yc (a1l n h k) (kvs.map (·.2))).map (.ins c (kvs.map (·.1)))
   |some (.dN _)=>none
   |none=>none
  |_=>none
open Classical in
noncomputable def ald(n:Nat)(h:Hd)(k:Nat)(o:O):Option O:=if v6 n o then some o else match o with
 |.lst xs=>(yc (a1l n h k) xs).map .lst
 |.dK kvs=>(yc (a1l n h k) (kvs.map (·.2))).map λys=>.dK ((kvs.map (·.1)).zip ys)
 |.dT kvs=>(yc (a1l n h k) (kvs.map (·.2))).map λys=>.dT ((kvs.map (·.1)).zip ys)
 |.ins c kvs=>(yc (a1l n h k) (kvs.map (·.2))).map λys=>.ins c ((kvs.map (·.1)).zip ys)
 |.dN _=>none
abbrev FU:Nat:=20
noncomputable def a5j(n:Nat):R D->R D
 |.ok d h1=>match a1l n h1 FU d,yc (ald n h1 FU) (h1.take n) with|some d',some g=>.ok d' g|_,_=>.no
 |_=>.no
open Classical in
noncomputable def aj1(n:Nat):R D->R D
 | .ok (.ref i) h1=>(match h1[i]? with
   |some o=>if n<=i/\v6 n o/\∀u∈h1.take n,v6 n u then .ok (.ref n) (h1.take n++[o]) else .no
   |none=>.no)
 |_=>.no
section
variable{K:Fg}{ι ι':List Addr}{H H' H2:Hp}{h1:Hd}{n:Nat}{L:List Addr}
theorem a8c(f:FrzOf L H' H2)(ab:a9d H' L)(κ:List Addr):Gw κ H' κ H2:=⟨⟨[],by simp⟩,λa vs e=>f.still ab e True.intro,λa o u e=>f.still ab e True.intro⟩
theorem jc(ih:∀{v d d'},Rep K ι H v d->f d=some d'->Rep K κ H2 v d'):∀{vs:List V} {ds ds':List D},Reps K ι H vs ds->yc f ds=some ds'->Reps K κ H2 vs ds'
 |_,_,_,.nil,e=>by cases e;exact .nil
 |_,x::xs,_,.cons r rs,e=>by
  unfold yc at e
  split at e
  ·rename_i y ys h1 h2;cases e
   exact .cons (ih r h1) (jc ih rs h2)
  ·cases e
theorem a2p(hr:HRep K ι' H' h1)(hL:∀(i:Nat) a,ι'[i]? = some a->n<=i->a∈L)(f:FrzOf L H' H2)(ab:a9d H' L):∀(k:Nat) {v:V} {d d':D},Rep K ι' H' v d->a1l n h1 k d=some d'->Rep K (ι'.take n) H2 v d':=by
 intro k
 induction k with
 |zero=>intro v d d' r e;cases e
 |succ k ih =>
  intro v d d' r e
  unfold a1l at e
  split at e
  ·rename_i c;cases e
   exact(r.cut c).monoW (a8c f ab _)
  ·rename_i c
   cases r with
   |tup h rs =>
    simp only[aw]at e;obtain⟨ys,e1,rfl⟩:=e;exact .tup (f.still ab h True.intro) (jc (λr e=>ih r e) rs e1)
   |rol h rs =>
    simp only[aw]at e;obtain⟨ys,e1,rfl⟩:=e;exact .rol (h.monoW (a8c f ab ι')) (jc (λr e=>ih r e) rs e1)
   |scr h rs =>
    simp only[aw]at e;obtain⟨ys,e1,rfl⟩:=e;exact .scr (h.monoW (a8c f ab ι')) (jc (λr e=>ih r e) rs e1)
   |rod h ek rs =>
    simp only[aw]at e;obtain⟨ys,e1,rfl⟩:=e;exact .rod (f.still ab h True.intro) ek (jc (λr e=>ih r e) rs e1)
   |rdT h ek rs =>
    simp only[aw]at e;obtain⟨ys,e1,rfl⟩:=e;exact .rdT (f.still ab h True.intro) ek (jc (λr e=>ih r e) rs e1)
   |@ref a i ha =>
    have hi:n<=i:=by
     simp only[clo]at c;omega
    obtain⟨o,u,e1,e2⟩:=(f a).2 (hL i a ha hi);obtain⟨ob,h3,h4⟩:=hr.at ha;simp only[h3]at e
    cases ob with
    |lst xs =>
     simp only[aw]at e;obtain⟨ys,e3,rfl⟩:=e;obtain⟨vs,h5,h6⟩:=h4;rw[e1]at h5;cases h5
     exact .rol ⟨o,e2⟩ (jc (λr e=>ih r e) h6 e3)
    |dK kvs =>
     simp only[aw]at e;obtain⟨ys,e3,rfl⟩:=e;obtain⟨us,h5,h6,h7⟩:=h4;rw[e1]at h5;cases h5
     exact .rod e2 h6 (jc (λr e=>ih r e) h7 e3)
    |dT kvs =>
     simp only[aw]at e;obtain⟨ys,e3,rfl⟩:=e;obtain⟨us,h5,h6,h7⟩:=h4;rw[e1]at h5;cases h5
     exact .rdT e2 h6 (jc (λr e=>ih r e) h7 e3)
    |ins c kvs =>
     simp only[aw]at e;obtain⟨ys,e3,rfl⟩:=e;obtain⟨C,dx,us,h5,hn,h6,h7⟩:=h4;rw[e1]at h5;cases h5
     exact .ins e2 hn h6 (jc (λr e=>ih r e) h7 e3)
    |dN _=>cases e
   |non=>simp only[clo,cB]at c
   |exc _ _ _=>simp only[clo,cB]at c
   |ins h hn ek rs =>
    simp only[aw]at e;obtain⟨ys,e1,rfl⟩:=e;exact .ins (f.still ab h True.intro) hn ek (jc (λr e=>ih r e) rs e1)
   |bl b=>simp only[clo,cB]at c
   |int b=>simp only[clo,cB]at c
   |str b=>simp only[clo,cB]at c
   |ty b=>simp only[clo,cB]at c
theorem a5c{κ:Type}{H:Hp}{us:List (κ×V)}{ks:List κ}{ys:List D}(e:us.map (·.1)=ks)(r:Reps K ι H (us.map (·.2)) ys):KRep K ι H us (ks.zip ys):=by
 have l:ks.length=ys.length:=by rw[<-e,aS,<-r.len,aS]
 refine⟨?_,?_⟩
 ·rw[List.map_fst_zip (by omega)];exact e
 ·rw[List.map_snd_zip (by omega)];exact r
theorem ai2(hr:HRep K ι' H' h1)(hL:∀(i:Nat) a,ι'[i]? = some a->n<=i->a∈L)(f:FrzOf L H' H2)(ab:a9d H' L){k:Nat}(na:a∉L)(r:ORep K ι' H' a o)(e:ald n h1 k o=some o'):ORep K (ι'.take n) H2 a o':=by
 have same:H2 a=H' a:=(f a).1 na;unfold ald at e
 split at e
 ·rename_i c;cases e
  exact(r.cut c).monoW (a8c f ab _) same
 ·cases o with
  |lst xs =>
   simp only[aw]at e;obtain⟨ys,e1,rfl⟩:=e;obtain⟨vs,h3,h4⟩:=r;exact⟨vs,by rw[same];exact h3,jc (λr e=>a2p hr hL f ab k r e) h4 e1⟩
  |dK kvs =>
   simp only[aw]at e;obtain⟨ys,e1,rfl⟩:=e;obtain⟨us,h3,h4,h5⟩:=r;exact⟨us,by rw[same];exact h3,a5c h4 (jc (λr e=>a2p hr hL f ab k r e) h5 e1)⟩
  |dT kvs =>
   simp only[aw]at e;obtain⟨ys,e1,rfl⟩:=e;obtain⟨us,h3,h4,h5⟩:=r;exact⟨us,by rw[same];exact h3,a5c h4 (jc (λr e=>a2p hr hL f ab k r e) h5 e1)⟩
  |ins c kvs =>
   simp only[aw]at e;obtain⟨ys,e1,rfl⟩:=e;obtain⟨C,dx,us,h3,hn,h4,h5⟩:=r;exact⟨C,dx,us,by rw[same];exact h3,hn,a5c h4 (jc (λr e=>a2p hr hL f ab k r e) h5 e1)⟩
  |dN _=>cases e
theorem yw{α β:Type}{f:α->Option β}:∀{xs:List α} {ys:List β},yc f xs=some ys->xs.length=ys.length/\∀(i:Nat) y,ys[i]? = some y->∃x,xs[i]? = some x/\f x=some y
 |[],_,e=>by cases e;exact⟨rfl,λi y e=>by simp at e⟩
 |x::xs,ys,e=>by
  unfold yc at e
  split at e
  ·rename_i y ys h1 h2;cases e
   obtain⟨l,g⟩:=yw h2;refine⟨by simp[l],λi z e=>?_⟩
   cases i with
   |zero=>simp at e;subst e;exact⟨x,rfl,h1⟩
   |succ i=>simpa using g i z (by simpa using e)
  ·cases e
theorem aba(hr:HRep K ι' H' h1)(M:List Addr)(hM:∀a∈M,a∈ι'):a9d H' M:=λa ha=>by
 obtain⟨i,hi⟩:=bB (hM a ha);obtain⟨o,_,q⟩:=hr.at hi
 cases o with
 |lst xs=>obtain⟨vs,h,_⟩:=q;exact .inl ⟨_,h⟩
 |dK xs=>obtain⟨vs,h,_⟩:=q;exact .inr (.inl ⟨_,h⟩)
 |dT xs=>obtain⟨vs,h,_⟩:=q;exact .inr (.inr (.inl ⟨_,h⟩))
 |ins _ _=>obtain⟨C,dx,vs,h,_⟩:=q;exact .inr (.inr (.inr (.inl ⟨_,_,_,h⟩)))
 |dN _ =>
  obtain⟨ent,⟨h,_⟩|⟨h,_⟩,_⟩:=q
  ·exact .inr (.inr (.inr (.inr ⟨_,h.has⟩)))
  ·exact .inr (.inl ⟨_,h⟩)
theorem a2q{α:Type}{l:List α}(nd:l.Nodup){i j:Nat}{a:α}(h1:l[i]? = some a)(h2:l[j]? = some a):i=j:=by
 obtain⟨l1,e1⟩:=a7.mp h1;obtain⟨l2,e2⟩:=a7.mp h2
 rcases Nat.lt_trichotomy i j with l|l|l
 ·exact absurd (e1.trans e2.symm) (cq.mp nd i j l1 l2 l)
 ·exact l
 ·exact absurd (e2.trans e1.symm) (cq.mp nd j i l2 l1 l)
theorem ale(g:Gr ι H ι' H')(f:FrzOf L H' H2)(ab:a9d H' L)(hL:∀a∈L,H a=none)(hm:∀a∈m,H a=none):Gr ι H (ι++m) H2:=by
 refine⟨⟨m,rfl,hm⟩,λa vs e=>f.still ab (g.tup a vs e) True.intro,λa o u e=>f.still ab (g.frz a o u e) True.intro,λa u e hn=>?_,λa u e=>?_⟩
 ·rw[(f a).1 λz=>by rw[hL a z]at e;cases e]
  exact g.oth a u e hn
 ·obtain⟨u',e'⟩:=g.kp a u e;rw[(f a).1 λz=>by rw[hL a z]at e;cases e]
  exact⟨u',e'⟩
theorem abb{d d':D}{v:V}{g':Hd}(g:Gr ι H ι' H')(rb:Rep K ι' H' v d)(hr:HRep K ι' H' h1)(e:a5j ι.length (.ok d h1)=.ok d' g') :
  ∃L,a9d H' L/\∀H2,FrzOf L H' H2->Gr ι H ι H2/\Rep K ι H2 v d'/\HRep K ι H2 g':=by
 obtain⟨m,rfl,hm⟩:=g.pre;have tk:(ι++m).take ι.length=ι:=by simp
 have ab:a9d H' m:=aba hr m λa ha=>bb _ ha;have hL:∀(i:Nat) a,(ι++m)[i]? = some a->ι.length<=i->a∈m:=λi a e hi=>by
  rw[ar hi]at e;exact aZ e
 refine⟨m,ab,λH2 f=>?_⟩;unfold a5j at e;simp only at e
 split at e
 ·rename_i dd gg e1 e2;cases e
  refine⟨by simpa using ale g f ab hm (m:=[]) (by simp),by have:=a2p hr hL f ab FU rb e1;rwa[tk]at this,?_⟩
  obtain⟨l,gt⟩:=yw e2;have hl:=hr.len;have ln:ι.length<=h1.length:=by rw[<-hl];simp
  refine⟨(bq.mp hr.nd).1,by rw[<-l,bE];omega,λi a o q1 q2=>?_⟩
  obtain⟨x,hx,fx⟩:=gt i o q2;have hi:i<ι.length:=(a7.mp q1).1;rw[da,aJ hi]at hx;have q3:(ι++m)[i]? = some a:=by rw[aI hi];exact q1
  have na:a∉m:=λz=>(bq.mp hr.nd).2.2 a (aZ q1) a z rfl;have:=ai2 hr hL f ab na (hr.obj i a x q3 hx) fx
  rwa[tk]at this
 ·cases e
theorem ae9(g:Gr ι H ι' H')(rb:Rep K ι' H' v d)(hr:HRep K ι' H' h1)(e:aj1 ι.length (.ok d h1)=.ok d' g') :
  ∃b,H b=none/\Gr ι H (ι++[b]) H'/\Rep K (ι++[b]) H' v d'/\HRep K (ι++[b]) H' g':=by
 obtain⟨m,rfl,hm⟩:=g.pre;have tk:(ι++m).take ι.length=ι:=by simp
 have up:∀b,Gw ι H' (ι++[b]) H':=λb=>⟨⟨[b],rfl⟩,λ_ _ h=>h,λ_ _ _ h=>h⟩
 cases rb with
 |@ref b i hb =>
  unfold aj1 at e;simp only at e
  split at e
  ·rename_i ob ho
   split at e
   ·rename_i hc;obtain⟨hi,c1,c2⟩:=hc;cases e
    have hb':=hb;rw[ar hi]at hb';have bm:b∈m:=aZ hb';obtain⟨nd1,nd2,nd3⟩:=bq.mp hr.nd;have hl:=hr.len;have ln:ι.length<=h1.length:=by rw[<-hl];simp
    have lt:(h1.take ι.length).length=ι.length:=by rw[bE];omega
    refine⟨b,hm b bm,⟨⟨[b],rfl,by simpa using hm b bm⟩,g.tup,g.frz,g.oth,g.kp⟩,.ref (by simp),?_⟩
    refine⟨bq.mpr ⟨nd1,by simp,λa ha c hc z=>nd3 a ha c (by rw[aL.mp hc];exact bm) z⟩,by simp[lt],λj a o q1 q2=>?_⟩
    by_cases hj:j<ι.length
    ·rw[aI hj]at q1;rw[aI (by omega)]at q2
     have q2':=q2;rw[da,aJ hj]at q2';have:=(hr.obj j a o (by rw[aI hj];exact q1) q2').cut (c2 o (aZ q2))
     rw[tk]at this;exact this.monoW (up b) rfl
    ·have hj2:j<(ι++[b]).length:=(a7.mp q1).1;have:j=ι.length:=by simp at hj2;omega
     subst this;rw[ar (ai _)]at q1;rw[ar (by omega),lt]at q2
     simp at q1 q2
     subst q1 q2;have:=(hr.obj i b ob hb ho).cut c1;rw[tk]at this;exact this.monoW (up b) rfl
   ·cases e
  ·cases e
 |_=>cases e
end
noncomputable def sZ(f:SE):SE:=λτ h=>a5j h.length (f τ h)
abbrev as6(Q:VK):VK:=λv H1=>∃L,a9d H1 L/\∀H2,FrzOf L H1 H2->Q v H2
theorem aqh(q:lift K E (yj K) (sZ fa) σ H Q):lift K E (yj K) fa σ H (as6 Q):=by
 obtain⟨ι,τ,h,S,Rh,o⟩:=q;refine⟨ι,τ,h,S,Rh,?_⟩;unfold sZ at o;rw[<-Rh.len]at o
 cases hf:fa τ h with
 |ok d h1 =>
  rw[hf]at o
  intro ι' H' v g r hr
  cases hz:a5j ι.length (.ok d h1) with
  |ok d' g' =>
   rw[hz]at o;obtain⟨L,ab,k⟩:=abb g r hr hz;refine⟨L,ab,λH2 f=>?_⟩;obtain⟨k1,k2,k3⟩:=k H2 f;exact o ι H2 v k1 k2 k3
  |ex c hx=>unfold a5j at hz;simp only at hz;split at hz<;>cases hz
  |no=>rw[hz]at o;exact o.elim
 |ex c h1=>rw[hf]at o;exact o.elim
 |no=>rw[hf]at o;exact o.elim
theorem afs(ha:ME X E e fa):ME X E e (sZ fa):=PE.weak (ab9 ha) λσ H Q q=>aqh q
def refOf:D->Option Nat
 |.ref i=>some i
 |_=>none
def zp(ds:List D):List Nat:=ds.filterMap refOf
def xx:Nat->List D->List D
 |_,[]=>[]
 |k,d::ds=>match d with
  |.ref _=>.ref k::xx (k+1) ds
  |d=>d::xx k ds
def o9:Hd->List Nat->List O->Hd
 |h,i::is,o::os=>o9 (h.set i o) is os
 |h,_,_=>h
def isRef(d:D):Prop:=∃i,d=.ref i
open Classical in
noncomputable def aj2(m:Bool)(F:SF)(ds:List D)(h:Hd):R D:=match yc (λi=>h[i]?) (zp ds) with
 |none=>.no
 | some os=>if (zp ds).Nodup/\(∀d∈ds,clo 0 d\/isRef d)/\(∀o∈os,v6 0 o) then
   (match (if m then aj1 os.length (F (xx 0 ds) os) else a5j os.length (F (xx 0 ds) os)) with
   | .ok d h1=>if ∀o∈h1,v6 0 o then
     (if m then .ok (.ref h.length) (o9 h (zp ds) h1++h1.drop os.length)
      else if clo 0 d then .ok d (o9 h (zp ds) h1) else .no) else .no
   |_=>.no)
  else .no
noncomputable def jd(m:Bool)(n:Nat)(F:SF):SF:=λds h=>if ds.length=n then aj2 m F ds h else .no
section
variable{K:Fg}{ι ι':List Addr}{H H' H2:Hp}{h h1:Hd}{n:Nat}
theorem aft(κ:List Addr):Gw [] H κ H:=⟨⟨κ,rfl⟩,λ_ _ h=>h,λ_ _ _ h=>h⟩
theorem Rep.any(r:Rep K ι H v d)(c:MI.clo 0 d)(κ:List Addr):Rep K κ H v d:=by
 have:=r.cut c
 rw[eQ]at this;exact this.monoW (aft κ)
theorem ORep.any(r:ORep K ι H a o)(c:v6 0 o)(κ:List Addr):ORep K κ H a o:=by
 have:=r.cut c
 rw[eQ]at this;exact this.monoW (aft κ) rfl
theorem a6h{α:Type}(l:List α):∀{is:List Nat},(∀i∈is,i<l.length)->∃ys,yc (λi=>l[i]?) is=some ys
 |[],_=>⟨[],rfl⟩
 |i::is,hi=>by
  obtain⟨ys,e⟩:=a6h l (is:=is) λj hj=>hi j (aR _ hj);have:=hi i aV;exact⟨l[i]::ys,by unfold yc;rw[e,ae this]⟩
theorem a0y:∀{ds:List D} {vs:List V} {pre κ:List Addr},Reps K ι H vs ds->(∀d∈ds,clo 0 d\/isRef d)->yc (λi=>ι[i]?) (zp ds)=some κ->Reps K (pre++κ) H vs (xx pre.length ds)
 |[],_,_,_,.nil,_,_=>.nil
 |d::ds,_,pre,κ,.cons r rs,hc,e=>by
  have hc':∀d∈ds,clo 0 d\/isRef d:=λx hx=>hc x (aR _ hx)
  by_cases hd:isRef d
  ·obtain⟨i,rfl⟩:=hd;have e':yc (λi=>ι[i]?) (i::zp ds)=some κ:=e;unfold yc at e'
   split at e'
   ·rename_i a κ' h1 h2
    cases e'
    cases r with
    |ref ha =>
     rw[ha]at h1;cases h1
     have:=a0y (pre:=pre++[a]) rs hc' h2
     simp only[cT,List.singleton_append,a9,aM]at this;refine .cons (.ref ?_) this;rw[ar (ai _)];simp
   ·cases e'
  ·have c:=(hc d aV).resolve_right hd;have e1:zp (d::ds)=zp ds:=by
    unfold zp
    cases d<;>first|rfl|exact absurd ⟨_,rfl⟩ hd
   have e2:xx pre.length (d::ds)=d::xx pre.length ds:=by
    cases d<;>first|rfl|exact absurd ⟨_,rfl⟩ hd
   rw[e1]at e;rw[e2];exact .cons (r.any c _) (a0y rs hc' e)
theorem vo:∀{is:List Nat} {os:List O} {h:Hd},(o9 h is os).length=h.length
 |[],_,_=>by simp[o9]
 |_::_,[],_=>by simp[o9]
 |i::is,o::os,h=>by rw[o9,vo,eM]
theorem a0z:∀{is:List Nat} {os:List O} {h:Hd},i∉is->(o9 h is os)[i]? = h[i]?
 |[],_,_,_=>by simp[o9]
 |_::_,[],_,_=>by simp[o9]
 |j::is,o::os,h,n=>by
  rw[o9,a0z λz=>n (aR _ z),cy λz=>n (by rw[z];exact aV)]
theorem a6i:∀{is:List Nat} {os:List O} {h:Hd} {j:Nat},is.Nodup->is[j]? = some i->os[j]? = some o->i<h.length->(o9 h is os)[i]? = some o
 |[],_,_,_,_,e,_,_=>by simp at e
 |_::_,[],_,_,_,_,e,_=>by simp at e
 |k::is,o'::os,h,j,nd,e1,e2,hl=>by
  cases j with
  |zero =>
   simp at e1 e2
   subst e1 e2;rw[o9,a0z (cJ.mp nd).1,bK hl]
  |succ j =>
   rw[o9];exact a6i (j:=j) (cJ.mp nd).2 (by simpa using e1) (by simpa using e2) (by simpa using hl)
theorem a6j{α:Type}{l:List α}(nl:l.Nodup){is:List Nat}{ys:List α}(e:yc (λi=>l[i]?) is=some ys)(ni:is.Nodup):ys.Nodup:=by
 obtain⟨le,g⟩:=yw e;refine cq.mpr λi j hi hj lt z=>?_;obtain⟨x,h1,h2⟩:=g i _ (ae hi);obtain⟨y,h3,h4⟩:=g j _ (ae hj);rw[<-z]at h4;have:=a2q nl h2 h4;subst this;have:=a2q ni h1 h3;omega
theorem a8d{is:List Nat}{κ m:List Addr}{g:Hd}(hr:HRep K ι H h)(e1:yc (λi=>ι[i]?) is=some κ)(nd:is.Nodup)(gr:Gr κ H (κ++m) H2)(hg:HRep K (κ++m) H2 g)(cg:∀o∈g,v6 0 o)(hm:m.length<=1) :
  Gr ι H (ι++m) H2/\HRep K (ι++m) H2 (o9 h is g++g.drop κ.length):=by
 obtain⟨l1,g1⟩:=yw e1;have mn:∀a∈m,H a=none:=by
  obtain⟨m',e,hm'⟩:=gr.pre;rw[List.append_cancel_left e];exact hm'
 have sub:∀a∈κ,a∈ι:=λa ha=>by
  obtain⟨j,hj⟩:=bB ha;obtain⟨i,_,q⟩:=g1 j a hj;exact aZ q
 have some_of:∀a∈ι,∃u,H a=some u:=λa ha=>by
  obtain⟨i,hi⟩:=bB ha;obtain⟨o,_,q⟩:=hr.at hi;obtain⟨u,q,_⟩:=q.some;exact⟨u,q⟩
 have G:Gr ι H (ι++m) H2:=⟨⟨m,rfl,mn⟩,gr.tup,gr.frz,λa u e n=>gr.oth a u e λz=>n (sub a z),gr.kp⟩;have lg:=hg.len;rw[a9]at lg;refine⟨G,?_,?_,λj a o q1 q2=>?_⟩
 ·refine bq.mpr ⟨hr.nd,(bq.mp hg.nd).2.1,λa ha b hb z=>?_⟩;obtain⟨u,q⟩:=some_of a ha;rw[z,mn b hb]at q;cases q
 ·rw[a9,a9,vo,bF,hr.len];omega
 ·by_cases hj:j<ι.length
  ·rw[aI hj]at q1;rw[aI (by rw[vo,<-hr.len];exact hj)]at q2
   by_cases hp:j∈is
   ·obtain⟨k,hk⟩:=bB hp;have hkl:k<κ.length:=by rw[<-l1];exact(a7.mp hk).1
    obtain⟨i,h3,h4⟩:=g1 k _ (ae hkl);rw[hk]at h3;cases h3
    rw[q1]at h4;have hkg:k<g.length:=by omega
    have e5:=a6i (h:=h) nd hk (ae hkg) (by rw[<-hr.len];exact hj)
    rw[e5]at q2;cases q2
    have ea:(κ++m)[k]? = some a:=by rw[aI hkl,ae hkl];exact h4.symm
    exact(hg.obj k a _ ea (ae hkg)).any (cg _ (cF hkg)) _
   ·rw[a0z hp]at q2;have r:=hr.obj j a o q1 q2;obtain⟨u,hu,_⟩:=r.some;have na:a∉κ:=λz=>by
     obtain⟨k,hk⟩:=bB z;obtain⟨i,h3,h4⟩:=g1 k a hk;have:=a2q hr.nd q1 h4;subst this;exact hp (aZ h3)
    exact r.mono G (by rw[hu];exact gr.oth a u hu na)
  ·have q1':=q1;rw[ar (by omega)]at q1
   rw[ar (by rw[vo,<-hr.len];omega),vo,<-hr.len,List.getElem?_drop]at q2
   have ea:(κ++m)[κ.length+(j-ι.length)]? = some a:=by rw[ar (by omega)];simpa using q1
   exact(hg.obj _ a o ea q2).any (cg o (aZ q2)) _
theorem abd{m:Bool}{F:SF}{vs:List V}{ds:List D}{Q:VK}(r:Reps K ι H vs ds)(hr:HRep K ι H h)(o:out K X0 (yj K) ι H (jd m n F ds h) Q)(E:XK) :
  jx K n F vs H (λv H1=>∃L,a9d H1 L/\∀H2,FrzOf L H1 H2->Q v H2) E:=by
 unfold jd at o
 split at o
 ·rename_i hl;refine⟨by rw[r.len];exact hl,?_⟩
  unfold aj2 at o
  split at o
  ·exact o.elim
  ·rename_i os hos
   split at o
   ·rename_i hc;obtain⟨nd,hd,hcl⟩:=hc;obtain⟨l0,g0⟩:=yw hos;obtain⟨κ,e1⟩:=a6h ι (is:=zp ds) λi hi=>by
     obtain⟨j,hj⟩:=bB hi;have hjl:j<os.length:=by rw[<-l0];exact(a7.mp hj).1
     obtain⟨x,h3,h4⟩:=g0 j _ (ae hjl);rw[hj]at h3;cases h3
     rw[hr.len];exact(a7.mp h4).1
    obtain⟨l1,g1⟩:=yw e1;have lk:κ.length=os.length:=by omega
    have R0:Reps K κ H vs (xx 0 ds):=by simpa using a0y (pre:=[]) r hd e1
    have H0:HRep K κ H os:=by
     refine⟨a6j hr.nd e1 nd,lk,λj a ob q1 q2=>?_⟩;obtain⟨i,h3,h4⟩:=g1 j a q1;obtain⟨i',h5,h6⟩:=g0 j ob q2;rw[h3]at h5;cases h5
     exact(hr.obj i a ob h4 h6).any (hcl ob (aZ q2)) _
    refine⟨κ,xx 0 ds,os,R0,H0,?_⟩
    cases hF:F (xx 0 ds) os with
    |no=>rw[hF]at o;cases m<;>exact o.elim
    |ex c hx=>rw[hF]at o;cases m<;>exact o.elim
    |ok d h1 =>
     rw[hF]at o
     intro ι' H' v g rb hr1
     rw[<-lk]at o
     cases m with
     |false =>
      simp only[bZ,dZ]at o
      cases hz:a5j κ.length (.ok d h1) with
      |ok d' g' =>
       rw[hz]at o;simp only at o;obtain⟨L,ab,k⟩:=abb g rb hr1 hz;refine⟨L,ab,λH2 f=>?_⟩;obtain⟨k1,k2,k3⟩:=k H2 f
       split at o
       ·rename_i cg
        split at o
        ·rename_i cd;have q:=a8d (m:=[]) hr e1 nd (by simpa using k1) (by simpa using k3) cg (by simp)
         have lg:=k3.len;have dr:g'.drop κ.length=[]:=bD (by omega)
         rw[dr,bp,bp]at q;exact o ι H2 v q.1 (k2.any cd _) q.2
        ·exact o.elim
       ·exact o.elim
      |ex c hx=>rw[hz]at o;exact o.elim
      |no=>rw[hz]at o;exact o.elim
     |true =>
      simp only[dA]at o
      cases hz:aj1 κ.length (.ok d h1) with
      |ok d' g' =>
       rw[hz]at o;simp only at o;obtain⟨b,hb,k1,k2,k3⟩:=ae9 g rb hr1 hz;refine⟨[],λa ha=>(by simp at ha),λH2 f=>?_⟩
       have e2:H2=H':=by funext a;exact(f a).1 (by simp)
       subst e2
       split at o
       ·rename_i cg;have q:=a8d (m:=[b]) hr e1 nd k1 k3 cg (by simp)
        refine o (ι++[b]) H2 v q.1 ?_ q.2;have hd':d'=.ref κ.length:=by
         unfold aj1 at hz
         split at hz
         ·rename_i i h2 hh
          injection hh with z1 z2
          split at hz
          ·split at hz
           ·injection hz with z3 z4;exact z3.symm
           ·cases hz
          ·cases hz
         ·cases hz
        subst hd'
        cases k2 with
        |ref hk =>
         rw[ar (ai _)]at hk;simp at hk;subst hk;exact .ref (by rw[<-hr.len];simp)
       ·exact o.elim
      |ex c hx=>rw[hz]at o;exact o.elim
      |no=>rw[hz]at o;exact o.elim
   ·exact o.elim
 ·exact o.elim
end
theorem a8e(m:Bool){X:Cx}(G:Dn X.prog X.w X.K X.mg X.base k x ps (jx X.K n F) f fd)(hr:Room k X.A)(hg:Gl X x)(ha:MA X X0 (e::es) ka)
  (hdb:(x == ("__debug__" : Str))=false:=by decide) (he:starEach (e::es) X.env=(false,eval e X.env)::starEach es X.env:=by rfl) (hpl:(backTo pos (starEach es X.env)).any (·.1)=false:=by rfl):ME X X0 (.Call (.Name x p) (e::es) [] pos) (sA (jd m n F) ka):=by
 refine PE.weak (ab9 (agy G.ok hr hg G.m G.kp G.b .nil akb ha hdb he hpl)) ?_
 rintro σ H Q ⟨ι,τ,h,S,Rh,o⟩
 refine⟨ι,τ,h,S,Rh,bz o λds h1 ι1 H1 vs g1 r1 hr1 o1=>?_⟩;rw[bp];exact abd r1 hr1 o1 _
theorem abe(m:Bool){X:Cx}(G:Dn X.prog X.w X.K X.mg X.base k x ps (jx X.K n F) f fd)(hr:Room k X.A)(hg:Gl X x)(hdb:(x == ("__debug__" : Str))=false:=by decide) :
  ME X X0 (.Call (.Name x p) [] [] pos) (sA (jd m n F) dh):=by
 refine PE.weak (ab9 (adc G.ok hr hg G.m G.kp G.b .nil akb hdb)) ?_
 rintro σ H Q ⟨ι,τ,h,S,Rh,o⟩
 exact abd (vs:=[]) .nil Rh o E0
def a5k:SS:=λ_ _=>.no
section
variable{X:Cx}{E:XD}
theorem sy:MSs X E st a5k:=λ_ _ _ _ _ _ ⟨_,_,_,_,_,o⟩=>o.elim
end
theorem alf(h:PS X st t):PS X st (λD σ H=>t {D with nx:=λσ' H1=>∃L,a9d H1 L/\∀H2,FrzOf L H1 H2->D.nx σ' H2} σ H):=λaA s σ H D I q =>
 thn (h aA s σ H _ I q) λf s' k=>by
  cases f with
  |next =>
   obtain⟨σ',H1,I1,L,ab,k⟩:=k;obtain⟨H2,f,I2⟩:=Inv.frz I1 ab;exact⟨σ',H2,I2,k H2 f⟩
  |brk=>exact k
  |cont=>exact k
  |ret u=>exact k
theorem alg(q:a4m K E (o8 i f) N σ H):lift K E (yj K) f σ H (λv H1=>N.nx (σ.set i (some v)) H1):=by
 obtain⟨ι,τ,h,S,Rh,o⟩:=q;exact⟨ι,τ,h,S,Rh,p8 o λd h1 ι1 H1 v g1 r1 hr1 o1=>o1 ι1 H1 _ (.refl _ _) ((S.mono g1).set r1 i) hr1⟩
theorem ai3(ht:aiz K n g t)(q:lift K E (yj K) (vg fi t fe ix) σ H Q):aad (lift K E (aqb K) fi) (yg n ix) g (lift K E (yj K) fe) σ H Q:=by
 obtain⟨ι,τ,h,Sr,Rh,o⟩:=q;refine⟨ι,τ,h,Sr,Rh,bz o λit h1 ι1 H1 J g1 r1 hr1 o1=>?_⟩
 by_cases hl:it.xs.length<=LINE
 ·rw[aJ hl]at o1;exact a87 r1 ht (a86 (Sr.mono g1) ix) hr1 hl o1
 ·rw[aY hl]at o1;exact o1.elim
section
variable{X:Cx}{E:XD}{aD tg aF cnd:Expr}{aB:Scope}{pos spos pos':Pos}{cl:List (Str×Addr)}{ts fr:List Str}{ix:List Nat}{fi:SI}{g:TG}{t:D->Option Sd}{fe:SE}{fc:ST}{i:Nat}{x:Str}
theorem aea(hN:X.N.Nodup)(hi':X.N[i]? = some x)(hx:Loc X.env.scope x)(hc:X.calm=true)(S:CSc X aB cl ts fr ix)(hi:MI X E tg aF fi)(hg:∀C fp s H,PG (cxC X (ts++fr) aB cl C fp s H) tg g)(ht:aiz X.K ts.length g t)(he:∀C fp s H,ME (cxC X (ts++fr) aB cl C fp s H) E aD fe)
  (hs:∀x,foldedSetIterable aF X.env x=pure x:=by intro _;rfl) (hsw:swapsWith (.ListComp aD [⟨tg,aF,[],0⟩] aB pos) (some (.Name x pos')) spos.line X.env=pure true:=by rfl) (hf:Hf X x:=by with_unfolding_all first|exact .inl rfl|exact .inr rfl|assumption) :
  MS X E (.Assign [.Name x pos'] (.ListComp aD [⟨tg,aF,[],0⟩] aB pos) spos) (o8 i (sZ (vg fi t fe ix))) :=
 PS.weak (alf (ado (te:=lift X.K E (yj X.K) fe) hN hi' hx hc S hi hg he hs hsw hf)) λN σ H q=>ai3 ht (aqh (alg q))
end
theorem ym(Fu:Fun K x qual st f fd)(S:FnScope N ps (bh st))
  (hb:∀(cdv:Value) (A:Around) (outer:List Env) (s:Shared) (H:Hp) (E:XK),Room k (A.deeper (PyProof.Rows.envOfC qual (bh st) s.heap.objs.size f cdv))->MSs (acr CX0 P w K mg base N qual (bh st) f cdv A outer s H E).nox X0 (qz st) b) :
  FnOk P w K mg base CX0 (k+1) f fd ps (jx K ps.length (jr b N.length)):=akv Fu S hb λds h _ _ _=>Rf.same rfl
end MI
namespace MI
open L2 HT
theorem a9e{s:Shared}(ht:PyProof.Rows.IsTup s.heap t aC)(hs:s.heap.IsSliceOf sl vl vu .none)(pl:IsPart vl lo)(pu:IsPart vu hi)
  (hw:HT.sIx aC.size 0 lo=0/\HT.sIx aC.size aC.size hi=aC.size) (h:Q (.ref t) s):wpAny (model prog w) A (getItem (.ref t) (.ref sl)) Q E s:=by
 obtain⟨os,f1,f2,f3⟩:=id hs;have ty:s.TypeIs (.ref sl) "slice":=⟨os,f1,f2⟩;have tt:s.TypeIs (.ref t) "tuple":=ht.typeIs;rw[getItem]
 try apply cQ
 first|(apply a8;apply aE)|skip
 apply a8;apply wpAny_sequenceKey tt (by decide)
 apply a8
 apply bH (name:=Str.ofString "__getitem__") tt ba
 apply cE ba tt PyProof.Rows.entry_tuple_getitem _ (PyProof.Rows.args_tuple_getitem _ _)
 change wpAny (model prog w) A.in1 (Builtin.Tuple.tupleItemsOf (.ref t)>>=_) _ _ s
 apply a8;apply PyProof.Rows.tupleItemsOf_ ht
 apply a8;apply wpAny_typeOf ty
 rw[aJ (by decide)]
 apply a8;apply HT.xn hs pl pu
 rw[hw.1,hw.2];dsimp only;rw[aJ (by simp)]
 apply a8
 rw[Builtin.Tuple.tupleIsExact]
 apply a8;apply wpAny_typeOf tt
 apply aE
 rw[aJ (by decide)]
 apply a8;apply wpAny_rule
 apply aE
 exact⟨_,rfl,aE h⟩
def aqi(K:Fg):V->Option Int->Option Int->Hp->VK->Prop:=λx lo hi H Q=>∃a xs,x=.ref a/\SqT K H a xs/\whole xs.length lo hi/\Q (.ref a) H
theorem aeb:SlR X (aqi X.K):=by
 intro aA s σ H x v vl vu lo hi sl Q I rx hs pl pu h
 obtain⟨a,xs,rfl,hx,hw,q⟩:=h;cases rx
 obtain⟨its,r,ht,hz⟩:=I.tuple hx;have aH:its.toArray.size=xs.length:=by rw[ag];exact r.length.symm
 exact⟨"tuple",_,ba.lookup,ht.typeIs,a9e ht hs pl pu (by rw[aH];exact hw) ⟨.ref a,H,I,rfl,q⟩⟩
def a9f(d:D)(lo hi:Option Int)(h:Hd):R D:=match d with
 |.tup xs=>if whole xs.length lo hi then .ok (.tup xs) h else .ok (.tup (a3f xs lo hi)) h
 |d=>gSl d lo hi h
def a3x(f:SE)(l u:SO):SE:=λτ h=>(f τ h).bind λd h1=>(l τ h1).bind λlo h2=>(u τ h2).bind λhi h3=>a9f d lo hi h3
theorem ai4(rx:Rep K ι H x d)(hr:HRep K ι H h)(o:out K E (yj K) ι H (a9f d lo hi h) Q):(aov x lo hi H Q\/aoq K x lo hi H Q\/aos K x lo hi H Q)\/aqi K x lo hi H Q:=by
 cases rx with
 |@tup p vs xs hp r =>
  by_cases hc:whole xs.length lo hi
  ·simp only[a9f,aJ hc]at o;exact .inr ⟨p,vs,rfl,SqT.of hp,by rw[r.len];exact hc,ans o (.tup hp r) hr⟩
  ·simp only[a9f,aY hc]at o;exact .inl (.inr (.inl ⟨p,vs,rfl,SqT.of hp,by rw[r.len];exact hc,a02 (a0f r lo hi) hr o⟩))
 |non=>exact o.elim
 |bl _=>exact o.elim
 |int _=>exact o.elim
 |ty _=>exact o.elim
 |str z=>exact .inl (a8a (.str z) hr o)
 |rol a b=>exact .inl (a8a (.rol a b) hr o)
 |scr a b=>exact .inl (a8a (.scr a b) hr o)
 |rod a b c=>exact o.elim
 |rdT a b c=>exact o.elim
 |exc a b c=>exact o.elim
 |ins _ _ _ _=>exact o.elim
 |ref a=>exact .inl (a8a (.ref a) hr o)
theorem jk(he:ME X E e fa)(hl:MO X E lo l)(hu:MO X E hi u):ME X E (.Subscript e (.Slice lo hi none p2) pos) (a3x fa l u):=by
 refine PE.weak (adf ((akg.or (ak6.or ah5)).or aeb) he hl hu) ?_
 rintro σ H Q ⟨ι,τ,h,S,Rh,o⟩
 refine⟨ι,τ,h,S,Rh,bz o λd h1 ι1 H1 v g1 r1 hr1 o1=>?_⟩;refine⟨ι1,τ,h1,S.mono g1,hr1,bz o1 λlo h2 ι2 H2 lv g2 r2 hr2 o2=>?_⟩;refine⟨ι2,τ,h2,(S.mono g1).mono g2,hr2,bz o2 λhi h3 ι3 H3 hv g3 r3 hr3 o3=>?_⟩
 cases r2;cases r3
 exact ai4 ((r1.mono g2).mono g3) hr3 o3
end MI
namespace L2
open PyProof.Rows
theorem aec:aq2 X (anr X.K):=by
 intro aA s σ H o i ov iv Q I ro ri h
 obtain⟨p,xs,k,z,rfl,rfl,hq,he,q⟩:=h;cases ro
 obtain⟨t,rfl⟩:=ri;obtain⟨its,r,pl,hz⟩:=I.list hq;obtain⟨j,h1,h2,h3,h4,h5⟩:=a4h he;obtain⟨w,ew,rw'⟩:=r.get h2;have len:=r.length;have l63:=a1e;have done:EP X aA σ Q w s:=⟨z,H,I,rw',q⟩
 by_cases neg:k<0
 ·have ej:(k+(its.toArray.size:Int)).toNat=j:=by
   rw[eL neg h4]at h1;rw[ag,<-len];exact b6 h1
  exact wpAny_getItem_list_neg pl.isList neg (by rw[ag];omega) (by omega) (by rw[ej];simpa using ew) done
 ·have ej:k.toNat=j:=by
   rw[eT (by omega) h5]at h1
   exact b6 h1
  exact wpAny_getItem_list pl.isList (by omega) (by omega) (by rw[ej];simpa using ew) done
end L2
namespace MI
open L2
def aj3(x y:D)(h:Hd):R D:=match x,y with
 |.ref p,.int i=>(match h[p]? with|some (.lst xs)=>(match atI xs i with|some d=>.ok d h|none=>.no)|_=>.no)
 |_,_=>.no
theorem ai5:zm K aj3 (anr K):=by
 intro E ι H h x y dx dy Q rx ry hr o
 cases rx with
 |@ref p i hp =>
  cases ry with
  |int k =>
   simp only[aj3]at o
   split at o
   ·rename_i xs hx;obtain⟨vs,h3,h4⟩:=hr.lst hp hx
    split at o
    ·rename_i d he;obtain⟨v,h1,h2⟩:=a89 h4 he;exact⟨p,vs,k,v,rfl,rfl,SqL.of h3,h1,ans o h2 hr⟩
    ·exact o.elim
   ·exact o.elim
  |_=>exact o.elim
 |_=>exact o.elim
def a6k(g:D->D->Hd->R D)(fo fi fe:SE):SS:=λτ h=>(fo τ h).fl λo h1=>(fi τ h1).fl λi h2=>(aj3 o i h2).fl λx h3=>(fe τ h3).fl λy h4=>(g x y h4).fl λz h5=>match put o i z h5 with|some h6=>.nx τ h6|none=>.no
section
variable{X:Cx}{E:XD}{e o i:Expr}{fa fb fc:SE}{pos:Pos}
theorem a7i(ho:ME X E o fa)(hi:ME X E i fb)(he:ME X E e fc)(hp:OpR X (inplaceOp op) r)(hs:zm X.K gg r)
  (ha:∀ov iv new,augStore i ov iv new=(do holding [new,ov,iv] (setItem ov iv new);release [new,ov,iv] [];pure .next):=by intros;rfl):MS X E (.AugAssign (.Subscript o i tpos) op e pos) (a6k gg fa fb fc):=by
 refine PS.weak (agr ho hi aec he hp set_list ha) ?_
 rintro N σ H ⟨ι,τ,h,S,Rh,oo⟩
 refine⟨ι,τ,h,S,Rh,p8 oo λd h1 ι1 H1 v g1 r1 hr1 o1=>?_⟩;refine⟨ι1,τ,h1,S.mono g1,hr1,p8 o1 λd2 h2 ι2 H2 u g2 r2 hr2 o2=>?_⟩;refine ai5 E ι2 H2 h2 v u d d2 _ (r1.mono g2) r2 hr2 (p8 o2 λd3 h3 ι3 H3 w g3 r3 hr3 o3=>?_);have S3:=((S.mono g1).mono g2).mono g3;refine⟨ι3,τ,h3,S3,hr3,p8 o3 λd4 h4 ι4 H4 y g4 r4 hr4 o4=>?_⟩;refine hs E ι4 H4 h4 w y d3 d4 _ (r3.mono g4) r4 hr4 (p8 o4 λd5 h5 ι5 H5 z g5 r5 hr5 o5=>?_)
 cases hq:put d d2 d5 h5 with
 |none=>rw[hq]at o5;exact o5.elim
 |some h6 =>
  rw[hq]at o5;exact aar ((((r1.mono g2).mono g3).mono g4).mono g5) (((r2.mono g3).mono g4).mono g5) r5 hr5 hq λH' g6 hr6=>o5 ι5 H' σ g6 (((S3.mono g4).mono g5).mono g6) hr6
end
end MI
namespace TPM
open PySem.W L2 HT MI
theorem a9g(t b:Addr)(items2:Array Value)(n n2:Nat)(dd dd2:Option Addr)(sl sl2:Array (Option Value)) :
  Meets (Builtin.«tuple.__add__» ⟨[.ref t,.ref b],[]⟩) (λ_ R s=>s.heap.get? t=some {cls:=.type "tuple",dict:=dd,data:=.seq #[] n,slots:=sl}/\s.heap.get? b=some {cls:=.type "tuple",dict:=dd2,data:=.seq items2 n2,slots:=sl2}/\R (.ok (.ret (.ref b))) s):=by
 refine .of_wp λprog w A R s h=>?_;obtain⟨hp,g,d,tk,os⟩:=s;obtain⟨hl,hb,h⟩:=h
 wp_walk
 refine wpAny_of_eq sub_tuple_self ?_
 wp_walk
 exact⟨_,rfl,h⟩
def alh(K:Fg):R2:=λx y H Q=>∃a b ys,x=.ref a/\y=.ref b/\SqT K H a []/\SqT K H b ys/\Q (.ref b) H
theorem ai6:OpR X (binaryOp .Add) (alh X.K):=by
 intro aA s σ H x y v u Q I rx ry h
 obtain⟨a,b,ys,rfl,rfl,ha,hb,q⟩:=h;cases rx
 cases ry
 obtain⟨its,r1,p1,_⟩:=I.tuple ha;obtain⟨its2,r2,p2,_⟩:=I.tuple hb;cases r1
 obtain⟨⟨cls,dd,data,sl⟩,ho,hc,n,hd⟩:=id p1;obtain⟨⟨cls2,dd2,data2,sl2⟩,ho2,hc2,n2,hd2⟩:=id p2;simp only at hc hd hc2 hd2;subst hc hd hc2 hd2;exact concat_meets ⟨_,ho,rfl⟩ ⟨_,ho2,rfl⟩ eF seq_tuple_add F.slot_tuple_add F.entry_tuple_add (F.args_tuple_add_2 _ _) (a9g a b its2.toArray n n2 dd dd2 sl sl2) ⟨ho,ho2,⟨.ref b,H,I,rfl,q⟩⟩
end TPM
namespace L2
open PyProof.Rows
section
variable{X:Cx}
theorem Inv.lstR(I:Inv X aA σ H s)(hH:Rd H l (.lst xs)):xs.length<=sizeLine/\∃(its:List Value) (n:Nat),Vals xs its/\xs.length=its.length/\s.heap.get? l=some {cls:=.type "list",data:=.seq its.toArray n}:=by
 obtain⟨z,its,n,r,e⟩:=hH.ok I.hok;exact⟨z,its,n,r,r.length,e⟩
def ali:R2:=λx y H Q=>∃l b xs zs,x=.ref l/\y=.ref b/\Rd H l (.lst xs)/\Rd H b (.lst zs)/\xs.length+zs.length<=sizeLine/\∀p,H p=none->Q (.ref p) (upd H p (.lst (xs++zs)))
theorem ai7:OpR X (binaryOp .Add) ali:=λaA s σ H x y v u Q I rx ry ⟨l,b,xs,zs,ex,ey,h1,h2,hz,q⟩=>by
 subst ex ey;cases rx
 cases ry
 obtain⟨_,as,_,va,la,ea⟩:=I.lstR h1;obtain⟨_,bs,_,vb,lb,eb⟩:=I.lstR h2;have app:as.toArray++bs.toArray=(as++bs).toArray:=by simp
 refine PySem.P.add_list ea eb ?_ (by simp;omega)
 rw[app];exact⟨.ref _,_,I.lnew (t':=s.toks) (va.append vb) (by simpa using hz),rfl,q _ I.fresh⟩
def alj:R2:=λx y H Q=>∃l k xs,x=.ref l/\y=.int k/\Rd H l (.lst xs) /\ -(2^63)<=k/\k<2^63/\xs.length*k.toNat<=sizeLine/\∀p,H p=none->Q (.ref p) (upd H p (.lst (List.replicate k.toNat xs).flatten))
theorem ai8(its:List Value)(k:Nat):List.foldl (λx1 x2=>x1++x2) #[] (List.replicate (if its.toArray.isEmpty=true then 0 else k) its.toArray)=(List.replicate k its).flatten.toArray:=by
 have g:∀m:Nat,List.foldl (λx1 x2=>x1++x2) #[] (List.replicate m its.toArray)=(List.replicate m its).flatten.toArray:=λm=>by simpa using foldl_rep its m []
 cases its with
 |nil=>simp
 |cons a r=>rw[aY (by simp),g]
theorem ai9:OpR X (binaryOp .Mult) alj:=λaA s σ H x y v u Q I rx ry ⟨l,k,xs,ex,ey,h1,k1,k2,hz,q⟩=>by
 subst ex ey;cases rx
 obtain⟨t,rfl⟩:=ry;obtain⟨_,as,n,va,la,ea⟩:=I.lstR h1;have few:as.toArray.size*k.toNat<=sizeLine:=by rw[ag,<-la];exact hz
 have top:(sizeLine:Nat)<=(2^63-1) / 8:=by decide
 refine wpAny_binaryOp_repeat_ref (T := "list") (U := "int") (by decide) ⟨_,ea,rfl⟩ (λs'=>typeIs_int s' k t) noFill_list_mul F.fills_int_mul F.slot_int_rmul repeat_list F.slot_int_index.lookup
  (call_meets F.slot_int_rmul (typeIs_int s k t) F.entry_int_rmul (F.args_int_rmul_2 _ _) (int___rmul___int_list k t l as.toArray n)
   ⟨ea,rfl,⟨_,ea,rfl⟩,call_meets F.slot_list_mul ⟨_,ea,rfl⟩ F.entry_list_mul (F.args_list_mul_2 _ _)
    (AutoListH.list___mul___list_int_3 l as.toArray n k t (by rw[fitsIndex_both k1 k2];exact aW) (by omega) (by rw[adg few];exact aW)) ⟨ea,?_⟩⟩)
 rw[ai8];exact⟨.ref _,_,I.lnew (t':=s.toks) (va.rep k.toNat) (by rw[len_rep,Nat.mul_comm];exact hz),rfl,q _ I.fresh⟩
end
end L2
namespace MI
open L2 TPM
def a0i(d:D)(h:Hd):Option (List D):=match d with
 |.rol xs=>some xs
 |.ref i=>(match h[i]? with|some (.lst xs)=>some xs|_=>none)
 |_=>none
section
variable{K:Fg}{ι:List Addr}{H:Hp}{h:Hd}
theorem a5d(r:Rep K ι H x d)(hr:HRep K ι H h)(e:a0i d h=some xs):∃a vs,x=.ref a/\Rd H a (.lst vs)/\Reps K ι H vs xs:=by
 cases r with
 |@rol a vs ys hp rs=>cases e;exact⟨a,vs,rfl,.inr hp,rs⟩
 |@ref a i hp =>
  obtain⟨ob,e1,e2⟩:=hr.at hp;simp only[a0i,e1]at e
  cases ob with
  |lst ys=>cases e;obtain⟨vs,h3,h4⟩:=e2;exact⟨a,vs,rfl,.inl h3,h4⟩
  |_=>cases e
 |_=>cases e
def gk:D->D->Hd->R D
 |.int i,.int j,h=>.ok (.int (i+j)) h
 |.str x,.str y,h=>if x.length+y.length<=LINE then .ok (.str (x++y)) h else .no
 |.tup [],.tup ys,h=>.ok (.tup ys) h
 |.tup (x::xs),.tup ys,h=>if (x::xs).length+ys.length<=LINE then .ok (.tup (x::xs++ys)) h else .no
 |x,y,h=>match a0i x h,a0i y h with
  |some xs,some ys=>if xs.length+ys.length<=LINE then .ok (.ref h.length) (h++[.lst (xs++ys)]) else .no
  |_,_=>.no
theorem abf(e1:a0i x h=some xs)(e2:a0i y h=some ys):gk x y h=if xs.length+ys.length<=LINE then .ok (.ref h.length) (h++[.lst (xs++ys)]) else .no:=by
 cases x<;>first|(cases e1;done)|(cases y<;>first|(cases e2;done)|(simp only[gk,e1,e2]))
theorem aia(x y:D)(h:Hd):(∃i j,x=.int i/\y=.int j)\/(∃i j,x=.str i/\y=.str j)\/(∃xs ys,x=.tup xs/\y=.tup ys)\/(∃xs ys,a0i x h=some xs/\a0i y h=some ys)\/gk x y h=.no:=by
 cases e1:a0i x h with
 |some xs =>
  cases e2:a0i y h with
  |some ys=>exact .inr (.inr (.inr (.inl ⟨xs,ys,rfl,rfl⟩)))
  |none =>
   refine .inr (.inr (.inr (.inr ?_)))
   cases x<;>first|(cases e1;done)|(simp only[gk,e1,e2])
 |none =>
  cases x with
  |int i=>cases y<;>first|exact .inl ⟨_,_,rfl,rfl⟩|exact .inr (.inr (.inr (.inr rfl)))
  |str i=>cases y<;>first|exact .inr (.inl ⟨_,_,rfl,rfl⟩)|exact .inr (.inr (.inr (.inr rfl)))
  |tup i=>cases y<;>first|exact .inr (.inr (.inl ⟨_,_,rfl,rfl⟩))|(cases i<;>exact .inr (.inr (.inr (.inr rfl))))
  |_=>refine .inr (.inr (.inr (.inr ?_)));simp only[gk,e1]
theorem aed:zm K gk (λx y H Q=>(rI0 (λi j=>.int (i+j)) x y H Q\/(∃i j,x=.str i/\y=.str j/\i.length+j.length<=sizeLine/\Q (.str (i++j)) H)\/ak7 K x y H Q\/ali x y H Q)\/alh K x y H Q):=by
 intro E ι H h x y dx dy Q rx ry hr o
 rcases aia dx dy h with⟨i,j,rfl,rfl⟩|⟨i,j,rfl,rfl⟩|⟨xs,ys,rfl,rfl⟩|⟨xs,ys,e1,e2⟩|e
 ·cases rx;cases ry
  exact .inl (.inl ⟨i,j,rfl,rfl,ans o (.int _) hr⟩)
 ·cases rx;cases ry
  simp only[gk]at o
  split at o
  ·rename_i hc;exact .inl (.inr (.inl ⟨i,j,rfl,rfl,ll hc,ans o (.str _) hr⟩))
  ·exact o.elim
 ·cases rx with
  |@tup a vs _ ha r1 =>
  cases ry with
  |@tup b us _ hb r2 =>
  cases xs with
  |nil=>cases r1;exact .inr ⟨a,b,us,rfl,rfl,SqT.of ha,SqT.of hb,ans o (.tup hb r2) hr⟩
  |cons z xs =>
   simp only[gk]at o
   split at o
   ·rename_i hc;refine .inl (.inr (.inr (.inl ⟨a,b,vs,us,rfl,rfl,SqT.of ha,SqT.of hb,λz=>(by subst z;cases r1),ll (by rw[r1.len,r2.len];exact hc),λz=>?_,λ_=>?_⟩)))
    ·subst z;cases r2
     rw[bp]at o;exact ans o (.tup ha r1) hr
    ·exact a02 (r1.app r2) hr o
   ·exact o.elim
 ·rw[abf e1 e2]at o;obtain⟨a,vs,rfl,h1,h2⟩:=a5d rx hr e1;obtain⟨b,us,rfl,h3,h4⟩:=a5d ry hr e2
  split at o
  ·rename_i hc;exact .inl (.inr (.inr (.inr ⟨a,b,vs,us,rfl,rfl,h1,h3,ll (by rw[h2.len,h4.len];exact hc),uf (h2.app h4) hr o⟩)))
  ·exact o.elim
 ·rw[e]at o;exact o.elim
theorem dg(ha:ME X E a fa)(hb:ME X E b fb):ME X E (.BinOp a .Add b pos) (s2 gk fa fb) :=
 a98 (OpR.or (ajx.or (a90.or (ah3.or ai7))) ai6) aed ha hb
open Classical in
noncomputable def a1m(x y:D)(h:Hd):R D:=match y with
 |.int k=>(match x with
  |.int i=>if CMul i k then .ok (.int (i*k)) h else .no
  |_=>match a0i x h with
   |some xs=>if (-(2^63)<=k/\k<2^63)/\xs.length*k.toNat<=LINE then .ok (.ref h.length) (h++[.lst (List.replicate k.toNat xs).flatten]) else .no
   |none=>.no)
 |_=>.no
theorem aee:zm K a1m (λx y H Q=>rI CMul (λi j=>.int (i*j)) x y H Q\/alj x y H Q):=by
 intro E ι H h x y dx dy Q rx ry hr o
 cases dy with
 |int k =>
  obtain rfl:=aay ry
  cases hx:a0i dx h with
  |some xs =>
   obtain⟨a,vs,rfl,h1,h2⟩:=a5d rx hr hx;have o':out K E (yj K) ι H (if (-(2^63)<=k/\k<2^63)/\xs.length*k.toNat<=LINE then .ok (.ref h.length) (h++[.lst (List.replicate k.toNat xs).flatten]) else .no) Q:=by
    cases dx<;>first|(cases hx;done)|(simp only[a1m,hx]at o;exact o)
   split at o'
   ·rename_i hc;exact .inr ⟨a,k,vs,rfl,rfl,h1,hc.1.1,hc.1.2,ll (by rw[h2.len];exact hc.2),uf (h2.flat _) hr o'⟩
   ·exact o'.elim
  |none =>
   cases dx with
   |int i =>
    obtain rfl:=aay rx
    by_cases hc:CMul i k
    ·simp only[a1m,aJ hc]at o;exact .inl ⟨i,k,rfl,rfl,hc,ans o (.int _) hr⟩
    ·simp only[a1m,aY hc]at o;exact o.elim
   |_=>simp only[a1m,hx]at o;exact o.elim
 |_=>exact o.elim
theorem abg(ha:ME X E a fa)(hb:ME X E b fb):ME X E (.BinOp a .Mult b pos) (s2 a1m fa fb):=a98 (ajz.or ai9) aee ha hb
end
end MI
namespace MI
open L2
def ap4:D->Option Key
 |.int i=>some (.inl i)
 |.str x=>some (.inr x)
 |_=>none
def as7:D->Option (List Key)
 |.tup xs=>yc ap4 xs
 |_=>none
def putD{κ:Type}[DecidableEq κ](kvs:List (κ×D))(k:κ)(d:D):List (κ×D):=if (kvs.any λkv=>decide (kv.1=k))=true then kvs.map λkv=>if kv.1=k then (kv.1,d) else kv else kvs++[(k,d)]
section
variable{K:Fg}{ι:List Addr}{H:Hp}{h:Hd}
def as8:D->Option (Int×List Int)
 |.tup [.int r,.tup xs]=>(al6 xs).map λts=>(r,ts)
 |_=>none
variable{X:Cx}{E:XD}{a b e o i:Expr}{fa fb fc:SE}{pos:Pos}
def as9(o k v:D)(h:Hd):Option Hd:=match o with
 |.ref i=>(match h[i]? with
  |some (.dK kvs)=>(match ap4 k with|some kk=>if kvs.length<LINE then some (h.set i (.dK (putD kvs kk v))) else none|none=>none)
  |some (.dT kvs)=>(match as7 k with|some kk=>if kvs.length<LINE then some (h.set i (.dT (putD kvs kk v))) else none|none=>none)
  |some (.dN kvs)=>(match as8 k with|some kk=>if kvs.length<LINE then some (h.set i (.dN (putD kvs kk v))) else none|none=>if kvs=[] then (ap4 k).map λkk=>h.set i (.dK [(kk,v)]) else none)
  |_=>none)
 |_=>none
def alk(fe fo fi:SE):SS:=λτ h=>(fe τ h).fl λv h1=>(fo τ h1).fl λo h2=>(fi τ h2).fl λk h3=>match as9 o k v h3 with|some h4=>.nx τ h4|none=>.no
end
end MI
namespace MI
open L2 ZP
def alm(x:D)(h:Hd):R Itm:=match srcOf x h with
 |some (xs,c)=>.ok ⟨((List.range xs.length).zip xs).map λp=>.tup [.int (p.1:Nat),p.2],c⟩ h
 |none=>.no
def ap5(f:SE):SI:=λτ h=>(f τ h).bind alm
end MI
namespace MI
open L2
def asa(lo:Int)(n:Nat):List D:=(List.range n).map λi=>D.int (lo-(i:Nat))
def ap6(ds:List D)(h:Hd):R Itm:=match ds with
 |[.int i,.int j,.int k]=>if k = -1/\B62 i/\B62 j then .ok ⟨asa i (i-j).toNat,λ_=>True⟩ h else .no
 |_=>.no
theorem bw{α β:Type}(a:α)(h:Hd)(k:α->Hd->R β):(R.ok a h).bind k=k a h:=rfl
theorem a1a{α:Type}(a:α)(h:Hd)(k:α->Hd->Fl):(R.ok a h).fl k=k a h:=rfl
def thn(r:Fl)(g:SS):Fl:=match r with|.nx τ h=>g τ h|r=>r
theorem ux(f g:SS)(τ:Sd)(h:Hd):il f g τ h=thn (f τ h) g:=by unfold il thn;cases f τ h<;>rfl
theorem a2r(τ:Sd)(h:Hd)(g:SS):thn (.nx τ h) g=g τ h:=rfl
theorem afu(d:D)(h:Hd)(g:SS):thn (.rt d h) g=.rt d h:=rfl
def toR(r:Fl):R D:=match r with|.rt d h1=>.ok d h1|.nx _ h1=>.ok .non h1|.ex c h1=>.ex c h1|_=>.no
theorem fu(b:SS)(n:Nat)(ds:List D)(h:Hd):jr b n ds h=toR (b (a0e n ds) h):=by unfold jr toR;cases b (a0e n ds) h<;>rfl
theorem a6l(d:D)(h:Hd):toR (.rt d h)=.ok d h:=rfl
theorem afv(τ:Sd)(h:Hd):toR (.nx τ h)=.ok .non h:=rfl
theorem je:∀{xs:List D},clos n xs↔∀x∈xs,clo n x
 |[]=>by simp[clos]
 |x::xs=>by simp[clos,je (xs:=xs)]
theorem dj(i:Int):clo n (.int i):=by simp[clo]
theorem bu(i:Str):clo n (.str i):=by simp[clo]
theorem a3y(i:Bool):clo n (.bl i):=by simp[clo]
theorem a7j:clo n .non:=by simp[clo]
theorem gw:clos n []:=by simp[clos]
theorem bc(a:clo n x)(b:clos n xs):clos n (x::xs):=by simp only[clos];exact⟨a,b⟩
theorem jg(h:clos n xs):clo n (.tup xs):=by simpa[clo] using h
theorem a7k(h:clos n xs):clo n (.rol xs):=by simpa[clo] using h
theorem km{α:Type}{n:Nat}{f:α->D}{l:List α}(h:∀a∈l,clo n (f a)):clos n (l.map f):=by
 rw[je]
 intro x hx
 obtain⟨a,ha,rfl⟩:=e8.mp hx;exact h a ha
mutual
theorem a6m(hm:n<=m):∀{d:D},clo n d->clo m d
 |.non,_=>by simp[clo]
 |.bl _,_=>by simp[clo]
 |.int _,_=>by simp[clo]
 |.str _,_=>by simp[clo]
 |.ty _,_=>by simp[clo]
 |.tup xs,h=>by simp only[clo]at h ⊢;exact qe hm h
 |.rol xs,h=>by simp only[clo]at h ⊢;exact qe hm h
 |.scr xs,h=>by simp only[clo]at h ⊢;exact qe hm h
 |.rod _ xs,h=>by simp only[clo]at h ⊢;exact qe hm h
 |.rdT _ xs,h=>by simp only[clo]at h ⊢;exact qe hm h
 |.exc _,_=>by simp[clo]
 |.ins _ _ xs,h=>by simp only[clo]at h ⊢;exact qe hm h
 |.ref i,h=>by simp only[clo]at h ⊢;omega
theorem qe(hm:n<=m):∀{xs:List D},clos n xs->clos m xs
 |[],_=>by simp[clos]
 |x::xs,h=>by simp only[clos]at h ⊢;exact⟨a6m hm h.1,qe hm h.2⟩
end
theorem a05(hm:n<=m)(h:v6 n o):v6 m o:=by
 cases o with
 |lst xs=>exact qe hm h
 |dK kvs=>exact qe hm h
 |dT kvs=>exact qe hm h
 |ins _ _=>exact qe hm h
 |dN _=>exact qe hm h
theorem a7l{α:Type}{f:α->Option α}:∀{xs:List α},(∀x∈xs,f x=some x)->yc f xs=some xs
 |[],_=>rfl
 |x::xs,h=>by
  unfold yc;rw[h x aV,a7l λy hy=>h y (aR _ hy)]
theorem a8f(c:clo n d):a1l n h (k+1) d=some d:=by unfold a1l;rw[aJ c]
theorem aef(c:v6 n o):ald n h k o=some o:=by unfold ald;rw[aJ c]
theorem aeg{n k i:Nat}{h:Hd}{xs:List D}(hi:n<=i)(e:h[i]? = some (.lst xs))(c:clos n xs):a1l n h (k+2) (.ref i)=some (.rol xs):=by
 unfold a1l;rw[aY (by simp only[clo];omega)]
 simp only[e];rw[a7l λx hx=>a8f (je.mp c x hx)];rfl
theorem a2s{n:Nat}{d d':D}{h1:Hd}(e:a1l n h1 FU d=some d')(c:∀o∈h1.take n,v6 n o):a5j n (.ok d h1)=.ok d' (h1.take n):=by
 unfold a5j;simp only[e];rw[a7l λo ho=>aef (c o ho)]
theorem j5{h1:Hd}(e:clo n d)(c:∀o∈h1.take n,v6 n o):a5j n (.ok d h1)=.ok d (h1.take n):=a2s (a8f e) c
theorem a8g(hi:n<=i)(e:h1[i]? = some (.lst xs))(cx:clos n xs)(c:∀o∈h1.take n,v6 n o):a5j n (.ok (.ref i) h1)=.ok (.rol xs) (h1.take n):=a2s (aeg hi e cx) c
theorem a7m(e:f τ h=.ok (.ref h.length) (h++[.lst xs]))(cx:clos h.length xs)(c:∀o∈h,v6 h.length o):sZ f τ h=.ok (.rol xs) h:=by
 unfold sZ;rw[e,a8g (ai _) (by simp) cx (by simpa using c)]
 simp
def Pu(F:SF)(n:Nat)(ds:List D)(d:D):Prop:=∀h,jd false n F ds h=.ok d h
def Dr(F:SF)(n:Nat)(ds:List D)(o:O)(d:D)(o':O):Prop:=∀p h,h[p]? = some o->jd false n F (.ref p::ds) h=.ok d (h.set p o')
theorem a1r:∀{ds:List D},(∀d∈ds,clo 0 d)->zp ds=[]/\xx 0 ds=ds/\∀k,xx k ds=ds
 |[],_=>⟨rfl,rfl,λ_=>rfl⟩
 |d::ds,h=>by
  obtain⟨a,b,c⟩:=a1r (ds:=ds) λx hx=>h x (aR _ hx);have hd:=h d aV;have nr:refOf d=none:=by cases d<;>first|rfl|(simp only[clo]at hd;omega)
  refine⟨?_,?_,λk=>?_⟩
  ·simpa[zp,nr] using a
  ·cases d<;>first|(simp only[clo]at hd;omega)|(simp only[xx,b])
  ·cases d<;>first|(simp only[clo]at hd;omega)|(simp only[xx,c])
theorem Pu.of{ds:List D}(hn:ds.length=n)(cd:∀x∈ds,clo 0 x)(e:F ds []=r)(z:a5j 0 r=.ok d [])(c:clo 0 d):Pu F n ds d:=λh=>by
 obtain⟨p1,p2,_⟩:=a1r cd;unfold jd;rw[aJ hn];unfold aj2;rw[p1];simp only[yc,aK,bZ,dZ];rw[aJ ⟨dD,λx hx=>.inl (cd x hx),λo ho=>by simp at ho⟩,p2,e,z]
 simp[c,o9]
theorem Dr.of{ds:List D}(hn:ds.length+1=n)(cd:∀x∈ds,clo 0 x)(co:v6 0 o)(e:F (.ref 0::ds) [o]=r)(z:a5j 1 r=.ok d [o'])(c:clo 0 d)(co':v6 0 o'):Dr F n ds o d o':=λp h hp=>by
 obtain⟨p1,_,p3⟩:=a1r cd;have e1:zp (.ref p::ds)=[p]:=by
  have:zp (.ref p::ds)=p::zp ds:=rfl
  rw[this,p1]
 have e2:xx 0 (.ref p::ds)=.ref 0::ds:=by
  have:xx 0 (.ref p::ds)=.ref 0::xx 1 ds:=rfl
  rw[this,p3]
 unfold jd;rw[aJ (by simpa using hn)]
 unfold aj2;rw[e1];simp only[yc,hp,aM,bZ,dZ];have all:∀x∈(D.ref p::ds),clo 0 x\/isRef x:=λx hx=>by
  rcases aO.mp hx with rfl|hx
  ·exact .inr ⟨p,rfl⟩
  ·exact .inl (cd x hx)
 rw[aJ ⟨by simp,all,λu hu=>by rw[aL.mp hu];exact co⟩,e2,e,z]
 simp[c,co',o9]
theorem aln{ds:List D}(hn:ds.length=n)(cd:∀x∈ds,clo 0 x)(e:F ds []=.ok (.ref i) h1)(ho:h1[i]? = some o)(co:v6 0 o)(h:Hd):jd true n F ds h=.ok (.ref h.length) (h++[o]):=by
 obtain⟨p1,p2,_⟩:=a1r cd;unfold jd;rw[aJ hn];unfold aj2;rw[p1];simp only[yc,aK,dA];rw[aJ ⟨dD,λx hx=>.inl (cd x hx),λo ho=>by simp at ho⟩,p2,e]
 unfold aj1;simp only[ho];rw[aJ ⟨cf _,co,by simp⟩]
 simp[co,o9]
theorem aeh(g:SG)(b:SS)(τ:Sd)(h:Hd):forL (λ_=>True) g b [] τ h=.nx τ h:=by rw[forL,aJ True.intro]
def trn(r:Fl)(k:Sd->Hd->Fl):Fl:=match r with|.nx τ h=>k τ h|.ct τ h=>k τ h|.bk τ h=>.nx τ h|r=>r
theorem abh(g:SG)(b:SS)(x:D)(xs:List D)(τ τ1:Sd)(h h1:Hd)(e:g x τ h=.nx τ1 h1):forL (λ_=>True) g b (x::xs) τ h=trn (b τ1 h1) (forL (λ_=>True) g b xs):=by
 rw[forL,aJ True.intro,e];dsimp only;unfold trn
 cases b τ1 h1<;>rfl
theorem alo(τ:Sd)(h:Hd)(k:Sd->Hd->Fl):trn (.nx τ h) k=k τ h:=rfl
theorem alp(d:D)(h:Hd)(k:Sd->Hd->Fl):trn (.rt d h) k=.rt d h:=rfl
theorem a8h{g:SG}{b:SS}{α:Type}(f:α->D)(I:List α->Sd->Hd->Prop)(Rt:D->Hd->Prop):∀(xs pre:List α) (τ:Sd) (h:Hd),
  (∀pre' x post τ h,pre++xs=pre'++x::post->I pre' τ h->∃τ1 h1,g (f x) τ h=.nx τ1 h1/\((∃τ2 h2,b τ1 h1=.nx τ2 h2/\I (pre'++[x]) τ2 h2)\/∃d h2,b τ1 h1=.rt d h2/\Rt d h2))->I pre τ h->
  (∃τ' h',forL (λ_=>True) g b (xs.map f) τ h=.nx τ' h'/\I (pre++xs) τ' h')\/∃d h',forL (λ_=>True) g b (xs.map f) τ h=.rt d h'/\Rt d h'
 |[],pre,τ,h,_,i0=>.inl ⟨τ,h,aeh ..,by simpa using i0⟩
 |x::xs,pre,τ,h,st,i0=>by
  obtain⟨τ1,h1,e1,q⟩:=st pre x xs τ h rfl i0;rw[aT,abh _ _ _ _ _ _ _ _ e1]
  rcases q with⟨τ2,h2,e2,i2⟩|⟨d,h2,e2,r⟩
  ·rw[e2,alo];have:=a8h f I Rt xs (pre++[x]) τ2 h2 (λpre' y post τ h e=>st pre' y post τ h (by simpa using e)) i2
   simpa using this
  ·rw[e2,alp];exact .inr ⟨d,h2,rfl,r⟩
theorem a1s{g:SG}{b:SS}{α:Type}(f:α->D)(I:List α->Sd->Hd->Prop)(xs:List α)(τ:Sd)(h:Hd)
  (st:∀pre x post τ h,xs=pre++x::post->I pre τ h->∃τ1 h1,g (f x) τ h=.nx τ1 h1/\∃τ2 h2,b τ1 h1=.nx τ2 h2/\I (pre++[x]) τ2 h2) (i0:I [] τ h) :
  ∃τ' h',forL (λ_=>True) g b (xs.map f) τ h=.nx τ' h'/\I xs τ' h':=by
 rcases a8h f I (λ_ _=>False) xs [] τ h (λpre' x post τ h e i=>let ⟨τ1,h1,a,b⟩:=st pre' x post τ h e i; ⟨τ1,h1,a,.inl b⟩) i0 with⟨τ',h',a,b⟩|⟨_,_,_,z⟩
 ·exact⟨τ',h',a,b⟩
 ·exact z.elim
theorem a8i{f:D->Hd->R D}{α:Type}(g:α->D)(I:List α->List D->Hd->Prop):∀(xs pre:List α) (ys:List D) (h:Hd),
  (∀pre' x post ys h,pre++xs=pre'++x::post->I pre' ys h->∃y h',f (g x) h=.ok y h'/\I (pre'++[x]) (ys++[y]) h')->I pre ys h->∃zs h',mapR (λ_=>True) f (xs.map g) h=.ok zs h'/\I (pre++xs) (ys++zs) h'
 |[],pre,ys,h,_,i0=>⟨[],h,by rw[cW,mapR,aJ True.intro],by simpa using i0⟩
 |x::xs,pre,ys,h,st,i0=>by
  obtain⟨y,h1,e1,i1⟩:=st pre x xs ys h rfl i0;obtain⟨zs,h',e2,i2⟩:=a8i g I xs (pre++[x]) (ys++[y]) h1 (λpre' z post ys h e=>st pre' z post ys h (by simpa using e)) i1
  refine⟨y::zs,h',?_,by simpa using i2⟩
  rw[aT,mapR,aJ True.intro,e1];show(mapR _ f (xs.map g) h1).bind _=_;rw[e2];rfl
theorem a6n{f:D->Hd->R D}{α:Type}(g F:α->D){h:Hd}:∀{xs:List α},(∀x∈xs,f (g x) h=.ok (F x) h)->mapR (λ_=>True) f (xs.map g) h=.ok (xs.map F) h
 |[],_=>by rw[cW,mapR,aJ True.intro];rfl
 |x::xs,st=>by
  rw[aT,mapR,aJ True.intro,st x aV];show(mapR _ f (xs.map g) h).bind _=_;rw[a6n g F λy hy=>st y (aR _ hy)];rfl
theorem alq(I:Nat->Sd->Hd->Prop)(N:Sd->Hd->Prop)(Rt:D->Hd->Prop)
  (st:∀m τ h,I m τ h->(∃h1,c τ h=.ok false h1/\N τ h1)\/∃h1,c τ h=.ok true h1/\((∃τ2 h2 m',f τ h1=.nx τ2 h2/\m'<m/\I m' τ2 h2)\/∃d h2,f τ h1=.rt d h2/\Rt d h2)) :
  ∀(m n:Nat) (τ:Sd) (h:Hd),m<n->I m τ h->(∃τ' h',sWh c f n τ h=.nx τ' h'/\N τ' h')\/∃d h',sWh c f n τ h=.rt d h'/\Rt d h':=by
 intro m
 induction m using Nat.strongRecOn with
 |ind m ih =>
  intro n τ h hn i0
  cases n with
  |zero=>omega
  |succ n =>
   rcases st m τ h i0 with⟨h1,e1,q⟩|⟨h1,e1,q⟩
   ·exact .inl ⟨τ,h1,by rw[sWh,e1];rfl,q⟩
   ·rcases q with⟨τ2,h2,m',e2,lt,i2⟩|⟨d,h2,e2,r⟩
    ·have e3:sWh c f (n+1) τ h=sWh c f n τ2 h2:=by
      rw[sWh,e1,a1a,aJ rfl,e2]
     rw[e3];exact ih m' lt n τ2 h2 (by omega) i2
    ·refine .inr ⟨d,h2,?_,r⟩;rw[sWh,e1,a1a,aJ rfl,e2]
end MI
namespace HND
open L2 MI
noncomputable def a1b:SS :=
 (jw (sA a9a (aj (sZ (sA a0g (aj (sZ (a3x (sV 0) oN (oS (sI 63)))) dh))) (aj (sI 0) (aj (sI 0) (aj (sI 7) (aj (sI 0) dh)))))))
noncomputable def a1c:SS :=
 (il (sIf (sT (s2 gLt (sV 1) (sI 2)))
 (jw (sI 0))
 sNx)
 (il (sIf (aaq (sT (s2 hEq (s2 gIx (sV 0) (sI 2)) (sI 0))) (sT (s2 gLt (s2 gIx (sV 0) (sI 1)) (sA wg (aj (s2 gIx (sV 0) (sI 0)) dh)))))
 (il (o8 2 (s2 gIx (s2 gIx (sV 0) (sI 0)) (s2 gIx (sV 0) (sI 1))))
 (il (a6k a3j (sV 0) (sI 1) (sI 1))
 (il (aiy (s2 acw (s2 gk (s2 a1m (s2 gIx (sV 0) (sI 3)) (sI 48271)) (sV 2)) (sI 2147483647)) (sV 0) (sI 3))
 (sIf (sT (s2 gGe (sA al1 (aj (sV 2) dh)) (s2 aav (sI 10) (sI 18))))
 (aiy (sA al1 (aj (sV 2) dh)) (sV 0) (sI 2))
 sNx))))
 sNx)
 (il (sIf (sT (s2 gGt (s2 gIx (sV 0) (sI 2)) (sI 0)))
 (il (o8 3 (s2 acw (s2 gIx (sV 0) (sI 2)) (sV 1)))
 (il (aiy (s2 afh (s2 gIx (sV 0) (sI 2)) (sV 1)) (sV 0) (sI 2))
 (jw (sV 3))))
 sNx)
 (il (a6k a3j (sV 0) (sI 4) (sI 1))
 (jw (s2 acw (s2 afh (s2 acw (s2 aav (s2 gk (s2 gIx (sV 0) (sI 3)) (s2 a1m (sI 7368787) (s2 gIx (sV 0) (sI 4)))) (sI 5)) (sI 2147483647)) (sI 1009)) (sV 1)))))))
noncomputable def uh:SS :=
 (il (o8 0 (sC (.str " !\"#$&'()*+,-./0123456789:;<=>?@ABCDEFGHIJKLMNOPQRSTUVWXYZ[\\]^_`")))
 (jw (s2 gk (sV 0) (sC (.str "abcdefghijklmnopqrstuvwxyz{|}~\n")))))
end HND
namespace MI
open L2
def kgt(kvs:List (Str×Str))(z:Str):Option Str:=(kvs.find? λp=>decide (p.1=z)).map (·.2)
structure KD (P:Program) (w:World) (K:Fg) (a:Addr) (kvs:List (Str×Str)):Prop where
 sys:(a == sysModules)=false
 ex:∃(o:Obj) (vs:List (Key×Value)),K.lookup a=some o/\KV (kvs.map λp=>((.inr p.1:Key),V.str p.2)) vs/\∀h:Heap,h.get? a=some o->h.DictOf (ye P w) a vs
theorem abi(kvs:List (Str×Str))(z:Str):af3 (kvs.map λp=>((.inr p.1:Key),V.str p.2)) (.inr z)=(kgt kvs z).map V.str:=by
 unfold af3 kgt
 induction kvs with
 |nil=>rfl
 |cons p kvs ih =>
  rw[aT,cL,cL]
  by_cases h:p.1=z
  ·subst h;simp
  ·have:¬ ((.inr p.1:Key)=.inr z):=λe=>h (Sum.inr.inj e)
   simp only[h,this,cO];exact ih
section
variable{X:Cx}{E:XD}{e:Expr}{fa:SE}{pos p:Pos}{a:Addr}{kvs:List (Str×Str)}{x:Str}
theorem KD.at(kd:KD X.prog X.w X.K a kvs)(I:Inv X aA σ H s):∃vs,KV (kvs.map λp=>((.inr p.1:Key),V.str p.2)) vs/\s.heap.DictOf (ye X.prog X.w) a vs:=by
 obtain⟨o,vs,l,r,d⟩:=kd.ex;exact⟨vs,r,d _ (I.bk _ _ (I.mod.kin _ _ l))⟩
def aj4(kvs:List (Str×Str))(d:D)(h:Hd):R D:=match d with|.str z=>.ok (.bl (kgt kvs z).isSome) h|_=>.no
def abj(kvs:List (Str×Str))(d:D)(h:Hd):R D:=match d with|.str z=>(match kgt kvs z with|some y=>.ok (.str y) h|none=>.no)|_=>.no
theorem alr(kd:KD X.prog X.w X.K a kvs):OpR X (compareOp .In) (λy x H Q=>x=.ref a/\∃z,y=.str z/\Q (.bl (kgt kvs z).isSome) H):=λaA s σ H y x v u Q I ry rx ⟨ex,z,ey,q⟩=>by
 subst ex ey;obtain rfl:u=Value.ref a:=rx;obtain⟨vs,rel,dd⟩:=kd.at I;refine wpAny_in_of (akd (k:=.inr z) ry) kd.sys dd.mapOf ?_;rw[<-(rel.val (.inr z)).isSome_eq,abi,Option.isSome_map];exact⟨.bl (kgt kvs z).isSome,H,I.tok _,rfl,q⟩
theorem als(kd:KD X.prog X.w X.K a kvs)(hg:Gl X x)(hm:X.mg x=some (.ref a))(ha:ME X E e fa)(hd:(x == ("__debug__" : Str))=false:=by decide)(hb:behindInMarks .In (.Name x p)=false:=by rfl):MT X E (.Compare e [.In] [.Name x p] pos) (sT (s1 (aj4 kvs) fa)):=by
 refine PT.weak (a75 (alr kd) ha (a4c (v:=.ref a) hg hm rfl hd) hb) λσ H Q q=>a4n (λσ H Q q=>?_) q;obtain⟨ι,τ,h,S,Rh,o⟩:=q;refine⟨ι,τ,h,S,Rh,bz o λd h1 ι1 H1 v g1 r1 hr1 o1=>?_⟩
 cases r1 with
 |str z=>exact⟨rfl,z,rfl,ans o1 (.bl _) hr1⟩
 |_=>exact o1.elim
theorem aib(kd:KD X.prog X.w X.K a kvs)(hg:Gl X x)(hm:X.mg x=some (.ref a))(ha:ME X E e fa)(hs:aq8 e)(hd:(x == ("__debug__" : Str))=false:=by decide):ME X E (.Subscript (.Name x p) e pos) (s1 (abj kvs) fa):=by
 intro aA s σ H Q I ⟨ι,τ,h,S,Rh,o⟩
 refine ah7 PySem.F.slot_dict_getitem.lookup hs (L2.thn (a4c (v:=.ref a) hg hm rfl hd aA s σ H (λx H1=>x=.ref a/\H1=H) I ⟨rfl,rfl⟩) λu s1 ⟨x,H1,I1,rx,ex,eH⟩=>?_);subst ex eH;obtain rfl:u=Value.ref a:=rx;refine L2.thn (ha aA s1 σ H1 (λy H2=>∃z r,y=.str z/\kgt kvs z=some r/\Q (.str r) H2) I1 ⟨ι,τ,h,S,Rh,bz o λd h1 ι1 H1 v g1 r1 hr1 o1=>?_⟩) λiv s2 ⟨y,H2,I2,ry,z,r,ey,er,q⟩=>?_
 ·cases r1 with
  |str z =>
   simp only[abj]at o1
   split at o1
   ·rename_i r er;exact⟨z,r,rfl,er,ans o1 (.str _) hr1⟩
   ·exact o1.elim
  |_=>exact o1.elim
 ·subst ey;obtain⟨vs,rel,dd⟩:=kd.at I2;obtain⟨w',hw,rw'⟩:=RelO.some_of (v:=V.str r) (o:=valueAt vs (.inr z)) (by have:=rel.val (.inr z);rw[abi,er]at this;exact this)
  exact⟨dd.mapOf.typeIs,wpAny_getItem_of (akd (k:=.inr z) ry) dd.mapOf hw ⟨.str r,H2,I2.tok _,rw',q⟩⟩
end
theorem KD.of3{P:Program}{w:World}{K:Fg}{a:Addr}{k1 k2 k3 v1 v2 v3:Str}{t1 t2 t3 t4 t5 t6:Tok}{ep:Nat}(hs:(a == sysModules)=false)(n:([k1,k2,k3].map (Sum.inr:Str->Key)).Nodup)
  (l:K.lookup a=some ⟨.type "dict",none,.dict #[⟨PyData.keyHash w.params k1,.str k1 t1,.str v1 t2⟩,⟨PyData.keyHash w.params k2,.str k2 t3,.str v2 t4⟩,⟨PyData.keyHash w.params k3,.str k3 t5,.str v3 t6⟩] ep, #[]⟩):KD P w K a [(k1,v1),(k2,v2),(k3,v3)]:=by
 refine⟨hs,_,[(.inr k1,.str v1 t2),(.inr k2,.str v2 t4),(.inr k3,.str v3 t6)],l,.cons ⟨rfl,_,rfl⟩ (.cons ⟨rfl,_,rfl⟩ (.cons ⟨rfl,_,rfl⟩ .nil)),λh e=>⟨_,_,_,e,⟨rfl,rfl,rfl⟩,rfl,?_,?_,n⟩⟩
 ·intro e he
  simp only[List.mem_toArray,aO,aU,bY]at he
  rcases he with rfl|rfl|rfl
  ·exact⟨.inr k1,mj P w _ _,rfl⟩
  ·exact⟨.inr k2,mj P w _ _,rfl⟩
  ·exact⟨.inr k3,mj P w _ _,rfl⟩
 ·exact .cons (mj P w _ _) rfl (.cons (mj P w _ _) rfl (.cons (mj P w _ _) rfl .nil))
end MI
namespace K76
open L2 MI
noncomputable def a2t(iw:SF):SE :=
 (sA (jd false 1 iw) (aj (sV 0) dh))
noncomputable def a1t(iw:SF):SS :=
 (jw (s2 gk (s2 gk (sC (.str "<")) (sMS a03 (sC (.str "")) (aj (sZ (vg (sIt (sV 0)) t1 (a2t iw) [])) dh))) (sC (.str ">"))))
noncomputable def qt:SS :=
 (il (sIf (sT (s2 hEq (sV 0) (sC (.str "\n"))))
 (jw (sC (.str "\\n")))
 sNx)
 (jw (afa (sT (s2 (gIn false) (sV 0) (sA xu (aj (sC (.str ">")) (aj (sC (.str "\\")) dh))))) (s2 gk (sC (.str "\\")) (sV 0)) (sV 0))))
noncomputable def uh:SS :=
 (il (o8 0 (sC (.str " !\"#$&'()*+,-./0123456789:;<=>?@ABCDEFGHIJKLMNOPQRSTUVWXYZ[\\]^_`")))
 (jw (s2 gk (sV 0) (sC (.str "abcdefghijklmnopqrstuvwxyz{|}~\n")))))
noncomputable def vp(jt:SF)(au:SF):SS :=
 (il (o8 2 (sA (jd false 0 jt) dh))
 (il (sIf (sT (s2 hEq (sV 1) (sI 0)))
 (o8 2 (sC (.str "<>\\\nn (){}*-:012345t")))
 sNx)
 (jw (s2 gIx (sV 2) (sA (jd false 2 au) (aj (sV 0) (aj (sA wg (aj (sV 2) dh)) dh)))))))
noncomputable def v7:SS :=
 (sIf (sT (s2 hEq (sV 2) (sC (.str "\n"))))
 (o8 1 (s2 gk (sV 1) (sC (.str "\\n"))))
 (sIf (sOr (sT (s2 hEq (sV 2) (sC (.str ">")))) (sT (s2 hEq (sV 2) (sC (.str "\\")))))
 (o8 1 (s2 gk (s2 gk (sV 1) (sC (.str "\\"))) (sV 2)))
 (o8 1 (s2 gk (sV 1) (sV 2)))))
noncomputable def wk:SS :=
 (il (o8 1 (sC (.str "")))
 (il (afd (sIt (sV 0)) (kN 2) v7)
 (jw (s2 gk (s2 gk (sC (.str "<")) (sV 1)) (sC (.str ">"))))))
end K76
namespace MI
open L2
mutual
def toPy:D->Option PyData
 |.non=>some .none
 |.bl b=>some (.bool b)
 |.int i=>some (.int i)
 |.str x=>some (.str x)
 |.tup xs=>(aic xs).map .tuple
 |.rol xs=>(aic xs).map .list
 |.rod [] []=>some (.dict [])
 |_=>none
def aic:List D->Option (List PyData)
 |[]=>some []
 |x::xs=>match toPy x,aic xs with|some p,some ps=>some (p::ps)|_,_=>none
end
mutual
def noL:D->Bool
 |.rol _=>false
 |.tup xs=>aqj xs
 |_=>true
def aqj:List D->Bool
 |[]=>true
 |x::xs=>noL x && aqj xs
end
theorem g8:CallR X (.builtin "isinstance") (λxs H Q=>∃a o us T b,xs=[.ref a,.ty T]/\H a=some (.frz o (.dK us))/\PySem.W.kitOne X.K (.type "dict") (.type T)=some b/\Q (.bl b) H):=by
 intro aA s σ H xs us Q I r h
 obtain⟨a,o,kv,T,b,rfl,ea,e,q⟩:=h;obtain⟨u,w',rfl,rx,rt⟩:=vals2 r;cases rt
 obtain rfl:u=Value.ref a:=rx
 obtain⟨_,_,_,vs,_,p⟩:=(show ObjOk X.prog X.w H s.heap a (.frz o (.dK kv)) from I.hok a _ ea)
 obtain⟨o',es,ep,h1,h2,_⟩:=p;exact bt eu I.kIn ⟨o',h1,h2.1⟩ e (λz=>nomatch z) λtk=>⟨.bl b,H,I.tok tk,rfl,q⟩
def j9:List D->Hd->R D
 |[.rod ks xs,.ty T],h=>(match a4t "dict" T with|some b=>.ok (.bl b) h|none=>.no)
 |ds,h=>a6f ds h
theorem jj:a9n K j9 (λxs H Q=>(∃x T t b,xs=[x,.ty T]/\TyOf K H x t/\PySem.W.kitOne K t (.type T)=some b/\Q (.bl b) H)\/∃a o us T b,xs=[.ref a,.ty T]/\H a=some (.frz o (.dK us))/\PySem.W.kitOne K (.type "dict") (.type T)=some b/\Q (.bl b) H):=by
 intro E ι H h xs ds Q r hr o
 unfold j9 at o
 split at o
 ·split at o
  ·rename_i b hb
   cases r with
   |cons r1 rs =>
    cases rs with
    |cons r2 rs2 =>
     cases rs2
     cases r2
     cases r1 with
     |rod hp ek rr=>exact .inr ⟨_,_,_,_,b,rfl,hp,ab2 hb,ans o (.bl _) hr⟩
  ·exact o.elim
 ·exact .inl (ahv E ι H h xs _ Q r hr o)
end MI
namespace L2
open PySem.W PyProof.Rows Builtin Builtin.ObjectAttr Builtin.Getset_descriptor
section
variable{prog:Program}{w:World}{A:Around}{E:Value->Shared->Prop}{s:Shared}{K:Frag}{x D:Addr}{ox:Obj}{odo:Option Obj}
structure XKit (K:Frag) (D:Addr):Prop where
 ga:findIn K (.ref D) "__getattribute__" = some (some (.builtin "BaseException.__getattribute__"))
 gn:findIn K (.ref D) "__getattr__" = some none
 cl:(clsIn K D).isSome=true
 ca:findIn K (.ref D) "__class__" = some (some (.builtin "object.__class__"))
 sp:specialIn K (.builtin "object.__class__") "__get__" = some (some (.builtin "getset_descriptor.__get__"))
 tk:takesIn K (.builtin "object.__class__")=some true
 ob:mroIn K D (.type "object")=some true
 be:subIn K (.ref D) (.type "BaseException")=some true
 kc:kitCls K (.ref D) (.ref D)=some true
abbrev ExAt(x D:Addr)(h:Heap):Prop:=∃o,h.get? x=some o/\o.cls=.ref D
theorem ExAt.ty(I:ExAt x D h):Looks M h (typeOf (.ref x)) (.ref D):=by
 obtain⟨o,q,c⟩:=I;exact c ▸ (Looks.ld q).andThen .now
end
end L2
namespace K20
open L2 MI
noncomputable def wu:SS :=
 (jw (rm (sA j9 (aj (sV 0) (aj (sC (.ty "int")) dh))) (a99 (sA j9 (aj (sV 0) (aj (sC (.ty "bool")) dh))))))
noncomputable def m8(my:SF):SS :=
 (jw (rm (sA (jd false 1 my) (aj (sV 0) dh)) (sCh gLe gLe (sV 1) (sV 0) (sV 2))))
noncomputable def a1u:SS :=
 (jw (rm (sA j9 (aj (sV 0) (aj (sC (.ty "tuple")) dh))) (sCh gLe gLe (sV 1) (sA wg (aj (sV 0) dh)) (sV 2))))
noncomputable def a0j:SS :=
 (il (sIf (sOr (a70 (a3e (sA j9 (aj (sV 0) (aj (sC (.ty "str")) dh))))) (sT (s2 hNe (sA wg (aj (sV 0) dh)) (sI 1))))
 a5k
 sNx)
 (il (sIf (sT (s2 hEq (sV 0) (sC (.str "\n"))))
 (jw (sC (.bl true)))
 sNx)
 (jw (rm (sCh gLe gLe (sC (.str " ")) (sV 0) (sC (.str "~"))) (s2 hNe (sA al3 (aj (sV 0) dh)) (sI 37))))))
noncomputable def t7(gf:SF):SE :=
 (sA (jd false 1 gf) (aj (sV 0) dh))
noncomputable def lq(gf:SF):SS :=
 (il (sIf (sOr (a70 (a3e (sA j9 (aj (sV 0) (aj (sC (.ty "str")) dh))))) (a70 (sT (sCh gLe gLe (sI 1) (sA wg (aj (sV 0) dh)) (sI 6)))))
 (jw (sC (.bl false)))
 sNx)
 (jw (rm (s2 hEq (s1 a04 (sV 0)) (sA wg (aj (sV 0) dh))) (sA afn (aj (sZ (vg (sIt (sV 0)) t1 (t7 gf) [])) dh)))))
end K20
namespace AT
open L2
theorem alu{α:Type}(x0:α)(xs:List α):atI (x0::xs) 0=some x0:=qy (j:=0) rfl
theorem alv{α:Type}(x0 x1:α)(xs:List α):atI (x0::x1::xs) 1=some x1:=qy (j:=1) rfl
theorem alw{α:Type}(x0 x1 x2:α)(xs:List α):atI (x0::x1::x2::xs) 2=some x2:=qy (j:=2) rfl
theorem alx{α:Type}(x0 x1 x2 x3:α)(xs:List α):atI (x0::x1::x2::x3::xs) 3=some x3:=qy (j:=3) rfl
theorem aly{α:Type}(x0 x1 x2 x3 x4:α)(xs:List α):atI (x0::x1::x2::x3::x4::xs) 4=some x4:=qy (j:=4) rfl
theorem alz{α:Type}(x0 x1 x2 x3 x4 x5:α)(xs:List α):atI (x0::x1::x2::x3::x4::x5::xs) 5=some x5:=qy (j:=5) rfl
theorem am0{α:Type}(x0 x1 x2 x3 x4 x5 x6:α)(xs:List α):atI (x0::x1::x2::x3::x4::x5::x6::xs) 6=some x6:=qy (j:=6) rfl
theorem am1{α:Type}(x0 x1 x2 x3 x4 x5 x6 x7:α)(xs:List α):atI (x0::x1::x2::x3::x4::x5::x6::x7::xs) 7=some x7:=qy (j:=7) rfl
theorem x10:ixN 1 0=some 0:=rfl
theorem x20:ixN 2 0=some 0:=rfl
theorem x21:ixN 2 1=some 1:=rfl
theorem x30:ixN 3 0=some 0:=rfl
theorem x31:ixN 3 1=some 1:=rfl
theorem x32:ixN 3 2=some 2:=rfl
theorem x40:ixN 4 0=some 0:=rfl
theorem x41:ixN 4 1=some 1:=rfl
theorem x42:ixN 4 2=some 2:=rfl
theorem x43:ixN 4 3=some 3:=rfl
theorem x50:ixN 5 0=some 0:=rfl
theorem x51:ixN 5 1=some 1:=rfl
theorem x52:ixN 5 2=some 2:=rfl
theorem x53:ixN 5 3=some 3:=rfl
theorem x54:ixN 5 4=some 4:=rfl
theorem x60:ixN 6 0=some 0:=rfl
theorem x61:ixN 6 1=some 1:=rfl
theorem x62:ixN 6 2=some 2:=rfl
theorem x63:ixN 6 3=some 3:=rfl
theorem x64:ixN 6 4=some 4:=rfl
theorem x65:ixN 6 5=some 5:=rfl
theorem x70:ixN 7 0=some 0:=rfl
theorem x71:ixN 7 1=some 1:=rfl
theorem x72:ixN 7 2=some 2:=rfl
theorem x73:ixN 7 3=some 3:=rfl
theorem x74:ixN 7 4=some 4:=rfl
theorem x75:ixN 7 5=some 5:=rfl
theorem x76:ixN 7 6=some 6:=rfl
def afw(x:Int):Int:=if x<0 then -x else x
theorem am2(x:Int)(h:MI.Hd):MI.al1 [.int x] h=.ok (.int (afw x)) h:=rfl
theorem p18(h:MI.Hd):MI.aav (.int 10) (.int 18) h=.ok (.int 1000000000000000000) h:=by rw[MI.aav,aJ (by decide)];rfl
theorem ap7{i:Int}(c:0<=j/\j<=1000000/\i.natAbs<2^64):MI.aav (.int i) (.int j) h=.ok (.int (i^j.toNat)) h:=by rw[MI.aav,aJ c]
end AT
namespace MI
open L2
def acy(d:D)(h:Hd):R D:=match d with
 |.int i=>if i.natAbs.log2<1920 then .ok (.str (toString i)) h else .no
 |.str x=>if x.length<=LINE then .ok (.str x) h else .no
 |_=>.no
def aqk:Str->SE:=λout _ h=>.ok (.str out) h
def afx(f:SE)(k:Str->SE):Str->SE:=λout τ h=>(f τ h).bind λd h1=>match d with
 |.str y=>if out.length+y.length<=LINE then k (out++y) τ h1 else .no
 |_=>.no
section
variable{X:Cx}{E:XD}{e e1 e2:Expr}{es:List Expr}{f:SE}{k:Str->SE}{pos:Pos}
theorem abk(he:ME X E e f):ME X E (.FormattedValue e (-1) none pos) (s1 acy f):=by
 rintro aA s σ H Q I ⟨ι,τ,h,S,Rh,o⟩
 refine PyProof.Rows.FormattedValue_plain (L2.thn (he aA s σ H (λv H1=>(∃i:Int,v=.int i/\i.natAbs.log2<1920/\Q (.str (toString i)) H1)\/∃x:Str,v=.str x/\x.length<=sizeLine/\Q (.str x) H1) I ⟨ι,τ,h,S,Rh,bz o λd h1 ι1 H1 v g1 r1 hr1 o1=>?_⟩) λu s1 ⟨v,H1,I1,r1,q⟩=>?_)
 ·cases r1 with
  |int i =>
   simp only[acy]at o1
   split at o1
   ·rename_i hc;exact .inl ⟨i,rfl,hc,ans o1 (.str _) hr1⟩
   ·exact o1.elim
  |str x =>
   simp only[acy]at o1
   split at o1
   ·rename_i hc;exact .inr ⟨x,rfl,ll hc,ans o1 (.str _) hr1⟩
   ·exact o1.elim
  |_=>exact o1.elim
 ·rcases q with⟨i,rfl,hc,q⟩|⟨x,rfl,hc,q⟩
  ·obtain⟨t,rfl⟩:=r1;exact PyProof.Rows.formatField_int_small hc ⟨.str _,H1,(I1.tok _),⟨_,rfl⟩,q⟩
  ·obtain⟨t,rfl⟩:=r1;exact PyProof.Rows.formatField_str (λt' tk=>⟨.str _,H1,I1.tok _,⟨_,rfl⟩,q⟩) hc
def MJ(X:Cx)(E:XD)(es:List Expr)(k:Str->SE):Prop:=∀(out:Str) (aA:List (Addr×Obj)) (s:Shared) (σ:St) (H:Hp) (Q:VK),out.length<=sizeLine->Inv X aA σ H s->lift X.K E (yj X.K) (k out) σ H Q->
 wpAny (model X.prog X.w) X.A (joinParts out (evalEach es X.env)) (EP X aA σ Q) X.xe s
theorem am3:MJ X E [] aqk:=λout aA s σ H Q hz I ⟨ι,τ,h,S,Rh,o⟩ =>
 PyProof.Rows.joinParts_nil ⟨.str out,H,I.tok _,⟨_,rfl⟩,ans o (.str _) Rh⟩ hz
theorem a2u(he:ME X E e f)(hj:MJ X E es k):MJ X E (e::es) (afx f k):=by
 rintro out aA s σ H Q hz I ⟨ι,τ,h,S,Rh,o⟩
 refine PyProof.Rows.joinParts_cons (L2.thn (he aA s σ H (λv H1=>∃y:Str,v=.str y/\(out++y).length<=sizeLine/\lift X.K E (yj X.K) (k (out++y)) σ H1 Q) I ⟨ι,τ,h,S,Rh,bz o λd h1 ι1 H1 v g1 r1 hr1 o1=>?_⟩) λu s1 ⟨v,H1,I1,r1,y,ev,z,q⟩=>?_)
 ·cases r1 with
  |str y =>
   simp only at o1
   split at o1
   ·rename_i hc;exact⟨y,rfl,by rw[strLen_append];exact ll hc,ι1,τ,h1,S.mono g1,hr1,o1⟩
   ·exact o1.elim
  |_=>exact o1.elim
 ·subst ev;obtain⟨t,rfl⟩:=r1;exact⟨z,hj _ aA s1 σ H1 Q z I1 q⟩
theorem aid(hj:MJ X E (e1::e2::es) k):ME X E (.JoinedStr (e1::e2::es) pos) (k Str.empty):=λaA s σ H Q I q =>
 PyProof.Rows.JoinedStr_many (hj Str.empty aA s σ H Q (by decide) I q)
structure KT (K:Fg) (a:Addr) (xs:List Str):Prop where
 ex:∃(o:Obj) (its:Array Value) (n:Nat),K.lookup a=some o/\o.cls=.type "tuple"/\o.data=.seq its n/\its.size<=sizeLine/\Vals (xs.map V.str) its.toList
def aj5(xs:List Str)(d:D)(h:Hd):R D:=match d with|.str z=>.ok (.bl (!decide (z∈xs))) h|_=>.no
theorem aie(z:Str)(xs:List Str):inV (.str z) (xs.map V.str)=decide (z∈xs):=by
 unfold inV;rw[List.any_map]
 by_cases h:z∈xs
 ·rw[aQ h,List.any_eq_true];exact⟨z,h,by show(z == z)=true;exact bW z⟩
 ·rw[aP h,List.any_eq_false]
  intro y hy e
  exact h ((show y=z from eq_of_beq e) ▸ hy)
theorem afy{x:Str}{p:Pos}{a:Addr}{xs:List Str}(kt:KT X.K a xs)(hg:Gl X x)(hm:X.mg x=some (.ref a))(ha:ME X E e f)(hd:(x == ("__debug__" : Str))=false:=by decide)(hb:behindInMarks .NotIn (.Name x p)=false:=by rfl):MT X E (.Compare e [.NotIn] [.Name x p] pos) (sT (s1 (aj5 xs) f)):=by
 refine PT.weak (a75 yf ha (a4c (v:=.ref a) hg hm rfl hd) hb) λσ H Q q=>a4n (λσ H Q q=>?_) q;obtain⟨ι,τ,h,S,Rh,o⟩:=q;refine⟨ι,τ,h,S,Rh,bz o λd h1 ι1 H1 v g1 r1 hr1 o1=>?_⟩
 cases r1 with
 |str z =>
  refine⟨a,xs.map V.str,rfl,.inr (.inr kt.ex),rfl,?_,?_⟩
  ·rw[dE,bJ];intros;rfl
  ·rw[aJ rfl,aie];exact ans o1 (.bl _) hr1
 |_=>exact o1.elim
end
def am4:List V->Hp->VK->Prop:=λxs H Q=>∃x n,xs=[.str x]/\PySem.intText? x=some n/\x.length<=640/\Q (.int n) H
theorem a6o{X:Cx}:CallR X (.type "int") am4:=by
 intro aA s σ H xs us Q I r h
 obtain⟨x,n,rfl,hn,hl,q⟩:=h;obtain⟨u,rfl,t,rfl⟩:=vals1 r;exact PySem.W.KIN.call_text hn hl ⟨.int n,H,I.tok _,⟨_,rfl⟩,q⟩
def a7n:List D->Hd->R D
 |[.int i],h=>.ok (.int i) h
 |[.bl k],h=>.ok (.int (if k then 1 else 0)) h
 |[.str x],h=>match PySem.intText? x with|some n=>if x.length<=640 then .ok (.int n) h else .no|none=>.no
 |_,_=>.no
theorem a8j:a9n K a7n (λxs H Q=>((∃i,xs=[.int i]/\Q (.int i) H)\/∃k,xs=[.bl k]/\Q (.int (if k then 1 else 0)) H)\/am4 xs H Q):=by
 intro E ι H h xs ds Q r hr o
 unfold a7n at o
 split at o
 ·cases r with|cons r rs=>cases r;cases rs;exact .inl (.inl ⟨_,rfl,ans o (.int _) hr⟩)
 ·cases r with|cons r rs=>cases r;cases rs;exact .inl (.inr ⟨_,rfl,ans o (.int _) hr⟩)
 ·rename_i x h'
  split at o
  ·rename_i n hn
   split at o
   ·rename_i hl
    cases r with|cons r rs=>cases r;cases rs;exact .inr ⟨_,n,rfl,hn,hl,ans o (.int _) hr⟩
   ·exact o.elim
  ·exact o.elim
 ·exact o.elim
end MI
namespace K78
open L2 MI
def vq:List Str:=["0","1","2","3","4","5","6","7","8","9"]
def jy:List (Str×Str):=[("\\n","\n"),("\\>",">"),("\\\\","\\")]
noncomputable def a0k(gf:SF):ST :=
 (sT (s2 hNe (a3x (sV 0) (oS (sV 3)) (oS (s2 gk (sV 3) (sI 1)))) (sC (.str ">"))))
noncomputable def lr(gf:SF):SS :=
 (il (o8 4 (a3x (sV 0) (oS (sV 3)) (oS (s2 gk (sV 3) (sI 2)))))
 (sIf (sT (s1 (aj4 jy) (sV 4)))
 (il (a4q (sML acx (sV 2) (aj (s1 (abj jy) (sV 4)) dh)))
 (acu 3 a3j (sI 2)))
 (sIf (aaq (a3e (sA (jd false 1 gf) (aj (a3x (sV 4) oN (oS (sI 1))) dh))) (sT (s2 (gIn true) (s2 gIx (sV 4) (sI 0)) (sA xu (aj (sC (.str "\n")) (aj (sC (.str "\\")) dh))))))
 (il (a4q (sML acx (sV 2) (aj (s2 gIx (sV 4) (sI 0)) dh)))
 (acu 3 a3j (sI 1)))
 a5k)))
noncomputable def yx(gf:SF):SS :=
 (il (sIf (sT (s2 hNe (a3x (sV 0) (oS (sV 1)) (oS (s2 gk (sV 1) (sI 1)))) (sC (.str "<"))))
 a5k
 sNx)
 (il (o8 2 (sA a9a dh))
 (il (o8 3 (s2 gk (sV 1) (sI 1)))
 (il (sWh (a0k gf) (lr gf) 100000)
 (jw (sA xu (aj (sMS a03 (sC (.str "")) (aj (sV 2) dh)) (aj (s2 gk (sV 3) (sI 1)) dh))))))))
noncomputable def yz(dz:SF):SS :=
 (jw (s2 gGt (sA (jd false 3 dz) (aj (sV 0) (aj (sI 5) (aj (sI 24) dh)))) (sI 0)))
noncomputable def rz(jm:SF)(kh:SF)(dz:SF):SS :=
 (il (o8 5 (sA (jd false 3 dz) (aj (sV 4) (aj (s2 a6z (sV 1) (sI 1)) (aj (s2 a6z (sV 2) (sV 3)) dh)))))
 (il (sIf (sT (s2 hEq (sV 5) (sI 0)))
 a5k
 sNx)
 (acu 3 a3j (sV 5))))
noncomputable def u5(jm:SF)(kh:SF)(dz:SF):SS :=
 (il (sIf (sOr (sT (s2 gLt (sV 1) (sI 1))) (sOr (sT (s2 gLt (sV 2) (sI 1))) (a70 (a3e (sA (jd false 1 kh) (aj (sV 0) dh))))))
 a5k
 sNx)
 (il (o8 3 (sI 1))
 (il (afd (sIt (sA (jd false 1 jm) (aj (sV 0) dh))) (kN 4) (rz jm kh dz))
 (jw (sV 3)))))
noncomputable def a0l(mz:SF)(p6:SF)(ik:SF):SS :=
 (il (sIf (sOr (a70 (a3e (sA (jd false 3 p6) (aj (sV 0) (aj (sI 2) (aj (sI 4) dh)))))) (a70 (a3e (sA j9 (aj (s2 gIx (sV 0) (sI 0)) (aj (sC (.ty "str")) dh))))))
 a5k
 sNx)
 (il (sIf (sT (s2 hEq (s2 gIx (sV 0) (sI 0)) (sC (.str "one"))))
 (jw (rm (s2 hEq (sA wg (aj (sV 0) dh)) (sI 2)) (sA (jd false 1 ik) (aj (s2 gIx (sV 0) (sI 1)) dh))))
 sNx)
 (il (sIf (sT (s2 hEq (s2 gIx (sV 0) (sI 0)) (sC (.str "row"))))
 (jw (rm (s2 hEq (sA wg (aj (sV 0) dh)) (sI 2)) (sA (jd false 3 p6) (aj (s2 gIx (sV 0) (sI 1)) (aj (sI 0) (aj (sI 6) dh))))))
 sNx)
 (il (sIf (sT (s2 hEq (s2 gIx (sV 0) (sI 0)) (sC (.str "either"))))
 (jw (rm (s2 hEq (sA wg (aj (sV 0) dh)) (sI 2)) (sA (jd false 3 p6) (aj (s2 gIx (sV 0) (sI 1)) (aj (sI 1) (aj (sI 6) dh))))))
 sNx)
 (il (sIf (sT (s2 hEq (s2 gIx (sV 0) (sI 0)) (sC (.str "many"))))
 (jw (s2 hEq (sA wg (aj (sV 0) dh)) (sI 2)))
 sNx)
 (jw (rm (s2 hEq (s2 gIx (sV 0) (sI 0)) (sC (.str "times"))) (rm (s2 hEq (sA wg (aj (sV 0) dh)) (sI 4)) (sA (jd false 2 mz) (aj (s2 gIx (sV 0) (sI 2)) (aj (s2 gIx (sV 0) (sI 3)) dh)))))))))))
noncomputable def ww(gj:SF):SS :=
 (jw (rm (sA (jd false 3 gj) (aj (sV 1) (aj (sI 0) (aj (sI 4) dh)))) (sA (jd false 3 gj) (aj (sV 0) (aj (sI 0) (aj (sV 1) dh))))))
noncomputable def a5e:SS :=
 (il (sIf (sT (s2 hEq (s2 gIx (sV 0) (sI 0)) (sC (.str "one"))))
 (jw (sA xu dh))
 sNx)
 (il (sIf (sOr (sT (s2 hEq (s2 gIx (sV 0) (sI 0)) (sC (.str "row")))) (sT (s2 hEq (s2 gIx (sV 0) (sI 0)) (sC (.str "either")))))
 (jw (s2 gIx (sV 0) (sI 1)))
 sNx)
 (jw (sA xu (aj (s2 gIx (sV 0) (sI 1)) dh)))))
noncomputable def yo(jm:SF)(m9:SF)(gh:SF):SE :=
 (sA (jd false 1 gh) (aj (sV 0) dh))
noncomputable def uy(jm:SF)(m9:SF)(gh:SF):SS :=
 (il (sIf (sT (s2 hEq (s2 gIx (sV 0) (sI 0)) (sC (.str "one"))))
 (jw (sA (jd false 1 m9) (aj (s2 gIx (sV 0) (sI 1)) dh)))
 sNx)
 (il (o8 1 (sZ (vg (sIt (sA (jd false 1 jm) (aj (sV 0) dh))) t1 (yo jm m9 gh) [])))
 (il (sIf (sT (s2 hEq (s2 gIx (sV 0) (sI 0)) (sC (.str "row"))))
 (jw (s2 gk (s2 gk (sC (.str "(")) (sMS a03 (sC (.str " ")) (aj (sV 1) dh))) (sC (.str ")"))))
 sNx)
 (il (sIf (sT (s2 hEq (s2 gIx (sV 0) (sI 0)) (sC (.str "either"))))
 (jw (s2 gk (s2 gk (sC (.str "{")) (sMS a03 (sC (.str " ")) (aj (sV 1) dh))) (sC (.str "}"))))
 sNx)
 (il (sIf (sT (s2 hEq (s2 gIx (sV 0) (sI 0)) (sC (.str "many"))))
 (jw (s2 gk (sC (.str "*")) (s2 gIx (sV 1) (sI 0))))
 sNx)
 (jw ((afx (s1 acy (s2 gIx (sV 0) (sI 2))) (afx (sC (.str "-")) (afx (s1 acy (s2 gIx (sV 0) (sI 3))) (afx (sC (.str ":")) (afx (s1 acy (s2 gIx (sV 1) (sI 0))) aqk))))) Str.empty)))))))
noncomputable def uz(qj:SF)(di:SF):SS :=
 (il (o8 1 (afa (a3e (sA j9 (aj (sV 0) (aj (sC (.ty "str")) dh)))) (sA (jd false 3 di) (aj (sV 0) (aj (sI 0) (aj (sI 5) dh)))) (sC .non)))
 (il (sIf (sT (s2 gIs (sV 1) (sC .non)))
 a5k
 sNx)
 (il (a9o (sV 1) (aau 2 (w6 (kN 2) (w6 (kN 3) acv))))
 (il (sIf (sOr (sT (s2 hNe (sV 3) (sA wg (aj (sV 0) dh)))) (a70 (a3e (sA (jd false 1 qj) (aj (sV 2) dh)))))
 a5k
 sNx)
 (jw (sV 2))))))
noncomputable def za(uo:SF)(v5:SF)(nq:SF)(qm:SF):SS :=
 (il (sIf (sT (s2 gLt (sV 2) (sI 1)))
 a5k
 sNx)
 (il (o8 3 (a3x (sV 0) (oS (sV 1)) (oS (s2 gk (sV 1) (sI 1)))))
 (il (sIf (sT (s2 hEq (sV 3) (sC (.str "<"))))
 (jw (sA (jd false 2 v5) (aj (sV 0) (aj (sV 1) dh))))
 sNx)
 (il (sIf (sT (s2 hEq (sV 3) (sC (.str "("))))
 (jw (sA (jd false 4 nq) (aj (sV 0) (aj (sV 1) (aj (sV 2) (aj (sA xu (aj (sC (.str "row")) (aj (sC (.str ")")) dh))) dh))))))
 sNx)
 (il (sIf (sT (s2 hEq (sV 3) (sC (.str "{"))))
 (jw (sA (jd false 4 nq) (aj (sV 0) (aj (sV 1) (aj (sV 2) (aj (sA xu (aj (sC (.str "either")) (aj (sC (.str "}")) dh))) dh))))))
 sNx)
 (il (sIf (sT (s2 hEq (sV 3) (sC (.str "*"))))
 (jw (sA (jd false 3 uo) (aj (sV 0) (aj (sV 1) (aj (sV 2) dh)))))
 sNx)
 (jw (sA (jd false 3 qm) (aj (sV 0) (aj (sV 1) (aj (sV 2) dh)))))))))))
noncomputable def a1v(nj:SF):SS :=
 (il (o8 2 (sA (jd false 2 nj) (aj (sV 0) (aj (sV 1) dh))))
 (il (sIf (sT (s2 gIs (sV 2) (sC .non)))
 a5k
 sNx)
 (il (a9o (sV 2) (aau 2 (w6 (kN 3) (w6 (kN 4) acv))))
 (jw (sA xu (aj (sA xu (aj (sC (.str "one")) (aj (sV 3) dh))) (aj (sV 4) dh)))))))
noncomputable def a0m(di:SF):ST :=
 (sT (s2 hNe (a3x (sV 0) (oS (sV 7)) (oS (s2 gk (sV 7) (sI 1)))) (sV 5)))
noncomputable def u6(di:SF):SS :=
 (il (sIf (a3e (sV 6))
 (il (sIf (sT (s2 hNe (a3x (sV 0) (oS (sV 7)) (oS (s2 gk (sV 7) (sI 1)))) (sC (.str " "))))
 a5k
 sNx)
 (acu 7 a3j (sI 1)))
 sNx)
 (il (o8 8 (sA (jd false 3 di) (aj (sV 0) (aj (sV 7) (aj (s2 a6z (sV 2) (sI 1)) dh)))))
 (il (sIf (sT (s2 gIs (sV 8) (sC .non)))
 a5k
 sNx)
 (il (a9o (sV 8) (aau 2 (w6 (kN 9) (w6 (kN 7) acv))))
 (a4q (sML acx (sV 6) (aj (sV 9) dh)))))))
noncomputable def zb(di:SF):SS :=
 (il (a9o (sV 3) (aau 2 (w6 (kN 4) (w6 (kN 5) acv))))
 (il (o8 6 (sA a9a dh))
 (il (o8 7 (s2 gk (sV 1) (sI 1)))
 (il (sWh (a0m di) (u6 di) 100000)
 (jw (sA xu (aj (sA xu (aj (sV 4) (aj (sA uw (aj (sV 6) dh)) dh))) (aj (s2 gk (sV 7) (sI 1)) dh))))))))
noncomputable def a0n(di:SF):SS :=
 (il (o8 3 (sA (jd false 3 di) (aj (sV 0) (aj (s2 gk (sV 1) (sI 1)) (aj (s2 a6z (sV 2) (sI 1)) dh)))))
 (il (sIf (sT (s2 gIs (sV 3) (sC .non)))
 a5k
 sNx)
 (il (a9o (sV 3) (aau 2 (w6 (kN 4) (w6 (kN 5) acv))))
 (jw (sA xu (aj (sA xu (aj (sC (.str "many")) (aj (sV 4) dh))) (aj (sV 5) dh)))))))
noncomputable def zc(di:SF):SS :=
 (il (o8 3 (a3x (sV 0) (oS (sV 1)) (oS (s2 gk (sV 1) (sI 4)))))
 (il (sIf (sOr (sT (s2 hNe (a3x (sV 3) (oS (sI 1)) (oS (sI 2))) (sC (.str "-")))) (sOr (sT (s2 hNe (a3x (sV 3) (oS (sI 3)) (oS (sI 4))) (sC (.str ":")))) (sOr (sT (s1 (aj5 vq) (s2 gIx (sV 3) (sI 0)))) (sT (s1 (aj5 vq) (s2 gIx (sV 3) (sI 2)))))))
 a5k
 sNx)
 (il (o8 4 (sA (jd false 3 di) (aj (sV 0) (aj (s2 gk (sV 1) (sI 4)) (aj (s2 a6z (sV 2) (sI 1)) dh)))))
 (il (sIf (sT (s2 gIs (sV 4) (sC .non)))
 a5k
 sNx)
 (il (a9o (sV 4) (aau 2 (w6 (kN 5) (w6 (kN 6) acv))))
 (jw (sA xu (aj (sA xu (aj (sC (.str "times")) (aj (sV 5) (aj (sA a7n (aj (s2 gIx (sV 3) (sI 0)) dh)) (aj (sA a7n (aj (s2 gIx (sV 3) (sI 2)) dh)) dh))))) (aj (sV 6) dh)))))))))
noncomputable def oh(j8:SF)(au:SF):SS :=
 (il (o8 4 (sA (jd false 2 j8) (aj (sV 0) (aj (sV 1) dh))))
 (sIf (sT (s2 (gIn true) (sV 4) (sV 2)))
 (o8 2 (s2 gk (sV 2) (sV 4)))
 sNx))
noncomputable def v4(j8:SF)(au:SF):SS :=
 (il (o8 1 (sA (jd false 2 au) (aj (sV 0) (aj (sI 2) dh))))
 (il (o8 2 (sC (.str "")))
 (il (afd (sRg a0v (aj (s2 gk (sI 1) (sA (jd false 2 au) (aj (sV 0) (aj (sI 6) dh)))) dh)) (kN 3) (oh j8 au))
 (jw (sV 2)))))
noncomputable def yp(au:SF):SS :=
 (il (o8 5 (sA (jd false 2 au) (aj (sV 0) (aj (sA wg (aj (sV 2) dh)) dh))))
 (il (o8 3 (s2 gk (sV 3) (s2 gIx (sV 2) (sV 5))))
 (o8 2 (s2 gk (a3x (sV 2) oN (oS (sV 5))) (a3x (sV 2) (oS (s2 gk (sV 5) (sI 1))) oN)))))
noncomputable def a0o(au:SF):SS :=
 (il (o8 2 (sV 1))
 (il (o8 3 (sC (.str "")))
 (il (afd (sRg a0v (aj (s2 gk (sI 1) (sA (jd false 2 au) (aj (sV 0) (aj (sA wg (aj (sV 1) dh)) dh)))) dh)) (kN 4) (yp au))
 (jw (sA xu (aj (sC (.str "one")) (aj (sV 3) dh)))))))
noncomputable def ou(jo:SF)(au:SF)(fj:SF):SE :=
 (sA (jd false 4 fj) (aj (sV 1) (aj (sV 2) (aj (sV 3) (aj (s2 a6z (sV 4) (sI 1)) dh)))))
noncomputable def zf(jo:SF)(au:SF)(fj:SF):SS :=
 (il (o8 4 (sA (jd false 2 au) (aj (sV 0) (aj (sI 8) dh))))
 (il (sIf (sOr (sT (s2 hEq (sV 3) (sI 1))) (sOr (sT (s2 hEq (s2 gIx (sV 2) (sI 0)) (sI 0))) (sT (s2 gLt (sV 4) (sI 2)))))
 (il (sIf (sT (s2 hEq (sV 4) (sI 0)))
 (jw (sA xu (aj (sC (.str "row")) (aj (sA xu dh) dh))))
 sNx)
 (jw (sA (jd false 2 jo) (aj (sV 0) (aj (sV 1) dh)))))
 sNx)
 (il (o8 5 (sI 1))
 (il (sIf (sT (s2 gGt (sV 4) (sI 3)))
 (o8 5 (sA a7d (aj (s2 gIx (sV 2) (sI 0)) (aj (s2 gk (sI 1) (sA (jd false 2 au) (aj (sV 0) (aj (sI 6) dh)))) dh))))
 sNx)
 (il (a6k a6z (sV 2) (sI 0) (sV 5))
 (il (o8 6 (sA uw (aj (sZ (vg (sRg a0v (aj (sV 5) dh)) t1 (ou jo au fj) [0,1,2,3])) dh)))
 (il (sIf (sT (s2 hEq (sV 4) (sI 2)))
 (jw (sA xu (aj (sC (.str "many")) (aj (s2 gIx (sV 6) (sI 0)) dh))))
 sNx)
 (il (sIf (sT (s2 hEq (sV 4) (sI 3)))
 (il (o8 7 (sA (jd false 2 au) (aj (sV 0) (aj (sI 5) dh))))
 (jw (sA xu (aj (sC (.str "times")) (aj (s2 gIx (sV 6) (sI 0)) (aj (sA (jd false 2 au) (aj (sV 0) (aj (s2 gk (sV 7) (sI 1)) dh))) (aj (sV 7) dh)))))))
 sNx)
 (il (sIf (sT (s2 gLt (sV 4) (sI 6)))
 (jw (sA xu (aj (sC (.str "row")) (aj (sV 6) dh))))
 sNx)
 (jw (sA xu (aj (sC (.str "either")) (aj (sV 6) dh)))))))))))))
noncomputable def xr(iy:SF)(cj:SF):SE :=
 (sA (jd false 1 cj) (aj (sV 0) dh))
noncomputable def a1n(iy:SF)(cj:SF):SE :=
 (sA (jd false 1 cj) (aj (sV 0) dh))
noncomputable def u9(iy:SF)(cj:SF):SS :=
 (il (sIf (sT (s2 hEq (s2 gIx (sV 0) (sI 0)) (sC (.str "one"))))
 (jw (sA (jd false 1 iy) (aj (s2 gIx (sV 0) (sI 1)) dh)))
 sNx)
 (il (sIf (sT (s2 hEq (s2 gIx (sV 0) (sI 0)) (sC (.str "row"))))
 (jw (s2 gk (s2 gk (sC (.str "(")) (sMS a03 (sC (.str " ")) (aj (sZ (vg (sIt (s2 gIx (sV 0) (sI 1))) t1 (xr iy cj) [])) dh))) (sC (.str ")"))))
 sNx)
 (il (sIf (sT (s2 hEq (s2 gIx (sV 0) (sI 0)) (sC (.str "either"))))
 (jw (s2 gk (s2 gk (sC (.str "{")) (sMS a03 (sC (.str " ")) (aj (sZ (vg (sIt (s2 gIx (sV 0) (sI 1))) t1 (a1n iy cj) [])) dh))) (sC (.str "}"))))
 sNx)
 (il (sIf (sT (s2 hEq (s2 gIx (sV 0) (sI 0)) (sC (.str "many"))))
 (jw (s2 gk (sC (.str "*")) (sA (jd false 1 cj) (aj (s2 gIx (sV 0) (sI 1)) dh))))
 sNx)
 (jw (s2 gk (s2 gk (s2 gk (s2 gk (s2 gIx (sC (.str "012345")) (s2 gIx (sV 0) (sI 2))) (sC (.str "-"))) (s2 gIx (sC (.str "012345")) (s2 gIx (sV 0) (sI 3)))) (sC (.str ":"))) (sA (jd false 1 cj) (aj (s2 gIx (sV 0) (sI 1)) dh))))))))
noncomputable def v8(gq:SF):SE :=
 (sA (jd false 2 gq) (aj (sV 0) (aj (sV 1) dh)))
noncomputable def wz(gq:SF):SS :=
 (il (sIf (aaq (a3e (sA j9 (aj (sV 0) (aj (sC (.ty "tuple")) dh)))) (a3e (sA j9 (aj (sV 1) (aj (sC (.ty "tuple")) dh)))))
 (jw (rm (s2 hEq (sA wg (aj (sV 0) dh)) (sA wg (aj (sV 1) dh))) (sA afn (aj (sZ (vg (aj0 (sV 0) (sV 1)) (tN 2) (v8 gq) [])) dh))))
 sNx)
 (il (sIf (aaq (a3e (sA j9 (aj (sV 0) (aj (sC (.ty "str")) dh)))) (a3e (sA j9 (aj (sV 1) (aj (sC (.ty "str")) dh)))))
 (jw (s2 hEq (sV 0) (sV 1)))
 sNx)
 (il (sIf (sOr (a3e (sA j9 (aj (sV 0) (aj (sC (.ty "bool")) dh)))) (a3e (sA j9 (aj (sV 1) (aj (sC (.ty "bool")) dh)))))
 a5k
 sNx)
 (jw (rm (sA j9 (aj (sV 0) (aj (sC (.ty "int")) dh))) (rm (sA j9 (aj (sV 1) (aj (sC (.ty "int")) dh))) (s2 hEq (sV 0) (sV 1))))))))
noncomputable def xf(gq:SF)(cj:SF)(kj:SF)(gh:SF):SS :=
 (il (o8 1 (sA (jd false 1 cj) (aj (sV 0) dh)))
 (il (o8 2 (sA (jd false 1 gh) (aj (sV 0) dh)))
 (jw (rm (sA j9 (aj (sV 2) (aj (sC (.ty "str")) dh))) (rm (s2 hEq (sV 2) (sV 1)) (sA (jd false 2 gq) (aj (sA (jd false 1 kj) (aj (sV 1) dh)) (aj (sV 0) dh))))))))
noncomputable def aei(n8:SF)(ju:SF)(au:SF)(j7:SF)(fj:SF):SS :=
 (il (o8 1 (sA (jd true 1 n8) (aj (sV 0) dh)))
 (il (o8 2 (sA (jd false 4 fj) (aj (sV 1) (aj (sA (jd false 1 j7) (aj (sV 1) dh)) (aj (sA a9a (aj (sI 23) dh)) (aj (s2 gk (sI 1) (sA (jd false 2 au) (aj (sV 1) (aj (sI 5) dh)))) dh))))))
 (il (o8 3 (sA (jd false 4 fj) (aj (sV 1) (aj (sA (jd false 1 j7) (aj (sV 1) dh)) (aj (sA a9a (aj (sI 23) dh)) (aj (s2 gk (sI 1) (sA (jd false 2 au) (aj (sV 1) (aj (sI 5) dh)))) dh))))))
 (jw (rm (sA (jd false 1 ju) (aj (sV 2) dh)) (rm (sA (jd false 1 ju) (aj (sV 3) dh)) (sA (jd false 1 ju) (aj (sV 2) dh))))))))
end K78
namespace MI
open L2
theorem dq(ha:ME X E a fa)(hb:ME X E b fb)(hp:a4i b:=by with_unfolding_all exact λ_ _=>rfl):ME X E (.Subscript a b pos) (s2 gIx fa fb):=ahr ha hb hp
theorem ji(i:Nat)(hN:X.N.Nodup)(he:ME X E e fa)(hi:X.N[i]? = some x:=by rfl)(hx:Loc X.env.scope x:=by with_unfolding_all first|exact Or.inl rfl|exact Or.inr rfl)(hs:swapsWith e (some (.Name x pos')) pos.line X.env=pure false:=by rfl)(hf:Hf X x:=by with_unfolding_all first|exact .inl rfl|exact .inr rfl|assumption) :
  MS X E (.Assign [.Name x pos'] e pos) (o8 i fa):=ako hN hi hx he hs hf
theorem iu{X:Cx}(G:Dn X.prog X.w X.K X.mg X.base k x ps (jx X.K n F) f fd)(hr:Room k' X.A)(hk:k<=k')(ha:MA X X0 (e::es) ka)(hg:Gl X x:=by rfl)
  (hdb:(x == ("__debug__" : Str))=false:=by decide) (he:starEach (e::es) X.env=(false,eval e X.env)::starEach es X.env:=by rfl) (hpl:(backTo pos (starEach es X.env)).any (·.1)=false:=by rfl):ME X X0 (.Call (.Name x p) (e::es) [] pos) (sA (jd false n F) ka):=a8e false G (hr.mono hk) hg ha hdb he hpl
theorem tu(hm:X.mg "len" = none)(ha:MA X E [e] ka)(hg:Gl X "len":=by rfl)(he:starEach [e] X.env=(false,eval e X.env)::starEach [] X.env:=by rfl)(hpl:(backTo pos (starEach [] X.env)).any (·.1)=false:=by rfl):ME X E (.Call (.Name "len" p) [e] [] pos) (sA wg ka) :=
 ug (L2.CallR.or a5y a5z) aht hg hm af6 ha (by decide) (by decide) he hpl
theorem jz(ho:OpR X (compareOp op) r)(hs:zm X.K g r)(ha:ME X E a fa)(hb:ME X E b fb)(hm:behindInMarks op b=false:=by exact ud _):MT X E (.Compare a [op] [b] pos) (sT (s2 g fa fb)):=a2k ho hs ha hb hm
theorem jb(hu:X.A.units+64<cLine)(ha:ME X E a fa)(hb:ME X E b fb):MT X E (.Compare a [.Eq] [b] pos) (sT (s2 hEq fa fb)):=a2k (xq hu) rn ha hb (ud _)
theorem pgn(i:Nat)(hN:N.Nodup:=by decide +kernel)(hi:N[i]? = some x:=by rfl)(hx:∀C fp s H,Loc (cxC X N aB cl C fp s H).env.scope x:=by with_unfolding_all exact λ_ _ _ _=>Or.inl rfl)(hf:∀C fp s H,(cxC X N aB cl C fp s H).fn x=true\/(cxC X N aB cl C fp s H).env.scope.names.lookup x=some .local:=by with_unfolding_all exact λ_ _ _ _=>.inr rfl) :
  ∀C fp s H,PG (cxC X N aB cl C fp s H) (.Name x pos) (a4d i):=λC fp s H=>a73 (X:=cxC X N aB cl C fp s H) hN hi (hx C fp s H) (hf C fp s H)
theorem pgm(i:Nat)(hN:N.Nodup:=by decide +kernel)(hi:N[i]? = some x:=by rfl)(hx:Loc (cxC X N aB cl C fp s H).env.scope x:=by with_unfolding_all exact Or.inl rfl)(hf:(cxC X N aB cl C fp s H).fn x=true\/(cxC X N aB cl C fp s H).env.scope.names.lookup x=some .local:=by with_unfolding_all exact .inr rfl) :
  PG (cxC X N aB cl C fp s H) (.Name x pos) (a4d i):=a73 (X:=cxC X N aB cl C fp s H) hN hi hx hf
def allP(P:α->Prop):List α->Prop
 |[]=>True
 |a::l=>P a/\allP P l
theorem allP.mem{P:α->Prop}:∀{l:List α},allP P l->∀a∈l,P a
 |b::l,h,a,m=>by
  rcases aO.mp m with rfl|m
  ·exact h.1
  ·exact h.2.mem a m
theorem ap8{X:Cx}(ts fr:List Str)(ix:List Nat)(clos:closureFor aB X.env=pure cl:=by rfl)(kind:aB.kind=.function:=by rfl)
  (nocell:(aB.names.all λp=>p.2 != .cell)=true:=by rfl) (names:(aB.names.all λp=>p.2 != .local || aB.names.lookup p.1 == some .local)=true:=by rfl) (sub:allP (λp=>X.env.cells.lookup p.1=some p.2) cl:=by with_unfolding_all repeat' constructor)
  (has:((relabel aB X.env).names.all λp => !(p.2 == .cell || p.2 == .free) || (cl.lookup p.1).isSome)=true:=by rfl) (nofn:(ts.all λy=>(relabel aB X.env).names.lookup y == some .local)=true:=by rfl)
  (len:ix.length=fr.length:=by rfl) (vis:((fr.zip ix).all λp=>X.N[p.2]? == some p.1 && (X.env.kindOf p.1 == some .cell || X.env.kindOf p.1 == some .free) && ((relabel aB X.env).names.lookup p.1 == some .cell || (relabel aB X.env).names.lookup p.1 == some .free))=true:=by rfl) :
  CSc X aB cl ts fr ix:=.of clos kind nocell names sub.mem has nofn len vis
theorem a9h{aB:Scope}(ts:List Str)(kind:aB.kind=.function:=by rfl)(h:∀y∈aB.names,y.2≠.cell/\y.2≠.free:=by decide +kernel)(names:∀y∈aB.names,y.2=.local->aB.names.lookup y.1=some .local:=by decide +kernel)
  (ht:∀y∈ts,aB.names.lookup y=some .local:=by decide +kernel):CSc X aB [] ts [] []:=.noFree kind h names ht
section
variable{α:Type}{us:List α}
theorem len0{P:List α->Prop}(h:us.length=0)(k:P []):P us:=by cases us with|nil=>exact k|cons _ _=>cases h
theorem a9i{P:List α->Prop}(h:us.length=n+1)(k:∀a vs,vs.length=n->P (a::vs)):P us:=by cases us with|nil=>cases h|cons a vs=>exact k a vs (eP h)
theorem aql{P:List α->Prop}(h:us.length=1)(k:∀a,P [a]):P us:=a9i h λa _ h=>len0 (P:=λus=>P (a::us)) h (k a)
theorem aqm{P:List α->Prop}(h:us.length=2)(k:∀a b,P [a,b]):P us:=a9i h λa _ h=>aql (P:=λus=>P (a::us)) h (k a)
theorem aqn{P:List α->Prop}(h:us.length=3)(k:∀a b c,P [a,b,c]):P us:=a9i h λa _ h=>aqm (P:=λus=>P (a::us)) h (k a)
theorem aqo{P:List α->Prop}(h:us.length=4)(k:∀a b c d,P [a,b,c,d]):P us:=a9i h λa _ h=>aqn (P:=λus=>P (a::us)) h (k a)
theorem aqp{P:List α->Prop}(h:us.length=5)(k:∀a b c d e,P [a,b,c,d,e]):P us:=a9i h λa _ h=>aqo (P:=λus=>P (a::us)) h (k a)
theorem asb{P:List α->Prop}(h:us.length=6)(k:∀a b c d e f,P [a,b,c,d,e,f]):P us:=a9i h λa _ h=>aqp (P:=λus=>P (a::us)) h (k a)
end
end MI
namespace K78
open L2 MI
def top(i:Nat):Stmt:=PySem.Challenge.pw_nearreach_k78_shapes_written.main.body.getD i (.Pass ⟨0,0,0,0⟩)
structure Nm (mg:Str->Option Value):Prop where
 abs:mg "abs" = none
 all:mg "all" = none
 bool:mg "bool" = none
 int:mg "int" = none
 isinstance:mg "isinstance" = none
 len:mg "len" = none
 list:mg "list" = none
 min:mg "min" = none
 ord:mg "ord" = none
 range:mg "range" = none
 set:mg "set" = none
 str:mg "str" = none
 tuple:mg "tuple" = none
 zip:mg "zip" = none
structure Cn (mg:Str->Option Value):Prop where
 DEEPEST:∃t,mg "DEEPEST" = some (.int 5 t)
 MOST_PARTS:∃t,mg "MOST_PARTS" = some (.int 24 t)
structure Kn (P:Program) (w:World) (K:Fg) (mg:Str->Option Value):Prop where
 FIGURES:∃a,mg "FIGURES" = some (.ref a)/\KT K a vq
 WRITTEN:∃a,mg "WRITTEN" = some (.ref a)/\KD P w K a jy
section
variable{P:Program}{w:World}{K:Fg}{mg:Str->Option Value}{base:Heap}{f:Addr}
def MD(P:Program)(w:World)(K:Fg)(mg:Str->Option Value)(base:Heap)(f:Addr)(k:Nat)(N:List Str)(x:Str)(t:Stmt)(b:SS):Prop:=∀(cdv:Value) (A:Around) (outer:List Env) (s:Shared) (H:Hp) (E:XK),Room k (A.deeper (PyProof.Rows.envOfC x (bh t) s.heap.objs.size f cdv))->MSs (acr CX0 P w K mg base N x (bh t) f cdv A outer s H E).nox X0 (qz t) b
local macro_rules|`(tactic|walk_at "sc") => `(tactic|exact⟨rfl,rfl,rfl,by decide +kernel,rfl,by decide +kernel,by decide +kernel⟩)
theorem aqq:FnScope ["thing"] ["thing"] (bh (top 4)):=by walk_at "sc"
theorem m_0(M:Nm mg):MD P w K mg base f k ["thing"] "is_number" (top 4) (K20.wu):=λcdv A outer s H E hr =>
 have SC:=aqq
 (az (dm (ph (ug (L2.CallR.or gm g8) jj rfl M.isinstance dw (aa (bf 0) (aa (zj rfl M.int a6c) aq))) (ut (akm (ug (L2.CallR.or gm g8) jj rfl M.isinstance dw (aa (bf 0) (aa (zj rfl M.bool a7h) aq))))))))
theorem aqr:FnScope ["thing","low","high"] ["thing","low","high"] (bh (top 5)):=by walk_at "sc"
theorem m_1(D_0:Dn P w K mg base k_0 "is_number" ["thing"] (jx K 1 F_0) a_0 d_0)(h_0:k_0<=k):MD P w K mg base f k ["thing","low","high"] "is_number_from" (top 5) (K20.m8 F_0):=λcdv A outer s H E hr =>
 have SC:=aqr
 (az (dm (ph (iu D_0 hr h_0 (aa (bf 0) aq)) (ut (a4o (a5n.or qw) (a5n.or qw) a1h a1h (bf 1) (bf 0) (bf 2))))))
theorem aqs:FnScope ["thing","low","high"] ["thing","low","high"] (bh (top 6)):=by walk_at "sc"
theorem m_2(M:Nm mg):MD P w K mg base f k ["thing","low","high"] "is_row" (top 6) (K20.a1u):=λcdv A outer s H E hr =>
 have SC:=aqs
 (az (dm (ph (ug (L2.CallR.or gm g8) jj rfl M.isinstance dw (aa (bf 0) (aa (zj rfl M.tuple a0b) aq))) (ut (a4o (a5n.or qw) (a5n.or qw) a1h a1h (bf 1) (tu M.len (aa (bf 0) aq)) (bf 2))))))
theorem aqt:FnScope ["thing"] ["thing"] (bh (top 7)):=by walk_at "sc"
theorem m_3(M:Nm mg):MD P w K mg base f k ["thing"] "is_sign" (top 7) (K20.a0j):=λcdv A outer s H E hr =>
 have SC:=aqt
 (ak (j4 (PW.pt (a0c (a2l (ue (ug (L2.CallR.or gm g8) jj rfl M.isinstance dw (aa (bf 0) (aa (zj rfl M.str a2j) aq))))) (zx (jz (a0h hr.u) wj (tu M.len (aa (bf 0) aq)) ao))))
 sy
 cu)
 (ak (j4 (jb hr.u (bf 0) bj)
 (az (dm akl))
 cu)
 (az (dm (ph (a4o (a5n.or qw) (a5n.or qw) a1h a1h bj (bf 0) bj) (ut (qd (a0h hr.u) wj (ug adb ahu rfl M.ord akj (aa (bf 0) aq)) ao (ud _))))))))
theorem aqu:FnScope ["thing"] ["thing"] (bh (top 8)):=by walk_at "sc"
theorem m_4(M:Nm mg)(D_3:Dn P w K mg base k_3 "is_sign" ["thing"] (jx K 1 F_3) a_3 d_3)(h_3:k_3<=k):MD P w K mg base f k ["thing"] "is_unlike_signs" (top 8) (K20.lq F_3):=λcdv A outer s H E hr =>
 have SC:=aqu
 (ak (j4 (PW.pt (a0c (a2l (ue (ug (L2.CallR.or gm g8) jj rfl M.isinstance dw (aa (bf 0) (aa (zj rfl M.str a2j) aq))))) (zx (a2l (adu (a5n.or qw) (a5n.or qw) a1h a1h ao (tu M.len (aa (bf 0) aq)) ao)))))
 (az (dm akl))
 cu)
 (az (dm (ph (qd (xq hr.u) rn (ab4 rfl rfl M.len rfl M.set (bf 0)) (tu M.len (aa (bf 0) aq)) (ud _)) (ut (ug (a2f rfl) ab3 rfl M.all af7 (aa (afs (a0w rfl (a9h ["sign"]) (a2n (bf 0)) (pgn 0) a3v (λ_ _ _ _=>(iu D_3 hr h_3 (aa (bf 0) aq))))) aq)))))))
theorem aqv:FnScope ["text"] ["text"] (bh (top 11)):=by walk_at "sc"
theorem m_5(D_6:Dn P w K mg base k_6 "written_sign" ["sign"] (jx K 1 F_6) a_6 d_6)(h_6:k_6<=k):MD P w K mg base f k ["text"] "quoted" (top 11) (K76.a1t F_6):=λcdv A outer s H E hr =>
 have SC:=aqv
 (az (dm (dg (dg bj (a9c bO bP a0t yt bj (aa (afs (a0w rfl (a9h ["sign"]) (a2n (bf 0)) (pgn 0) a3v (λ_ _ _ _=>(iu D_6 hr h_6 (aa (bf 0) aq))))) aq))) bj)))
theorem aqw:FnScope ["sign"] ["sign"] (bh (top 12)):=by walk_at "sc"
theorem m_6:MD P w K mg base f k ["sign"] "written_sign" (top 12) (K76.qt):=λcdv A outer s H E hr =>
 have SC:=aqw
 (ak (j4 (jb hr.u (bf 0) bj)
 (az (dm bj))
 cu)
 (az (dm (afb (a2k (ahf.or aa8) ahs (bf 0) (lu (aa bj (aa bj aq))) (by with_unfolding_all rfl)) (dg bj (bf 0)) (bf 0)))))
theorem aqx:FnScope ["text","at","signs","place","pair"] ["text","at"] (bh (top 13)):=by walk_at "sc"
theorem m_7(G:Kn P w K mg)(D_3:Dn P w K mg base k_3 "is_sign" ["thing"] (jx K 1 F_3) a_3 d_3)(h_3:k_3<=k):MD P w K mg base f k ["text","at","signs","place","pair"] "quote_at" (top 13) (yx F_3):=λcdv A outer s H E hr =>
 have SC:=aqx
 (ak (j4 (jz (a0h hr.u) wj (jk (bf 0) (jf (bf 1)) (jf (dg (bf 1) ao))) bj)
 sy
 cu)
 (ak (ji 2 SC.nd (a6d aq))
 (ak (ji 3 SC.nd (dg (bf 1) ao))
 (ak (a83 100000 cP (jz (a0h hr.u) wj (jk (bf 0) (jf (bf 3)) (jf (dg (bf 3) ao))) bj) (ak (ji 4 SC.nd (jk (bf 0) (jf (bf 3)) (jf (dg (bf 3) ao))))
 (az (j4 (als G.WRITTEN.choose_spec.2 rfl G.WRITTEN.choose_spec.1 (bf 4))
 (ak (a7b (ahw cX cY a2d a7e (bf 2) (aa (aib G.WRITTEN.choose_spec.2 rfl G.WRITTEN.choose_spec.1 (bf 4) (λ_ _=>rfl)) aq)))
 (az (a82 (i:=3) SC.nd rfl (Or.inl rfl) (a0q.or qb) yu ao)))
 (az (j4 (PW.pt (a81 (ue (iu D_3 hr h_3 (aa (jk (bf 4) a4s (jf ao)) aq))) (a4p (a2k (a3q.or yf) ab0 (dq (bf 4) ao) (lu (aa bj (aa bj aq))) (by with_unfolding_all rfl)))))
 (ak (a7b (ahw cX cY a2d a7e (bf 2) (aa (dq (bf 4) ao) aq)))
 (az (a82 (i:=3) SC.nd rfl (Or.inl rfl) (a0q.or qb) yu ao)))
 sy))))))
 (az (dm (lu (aa (a9c bO bP a0t yt bj (aa (bf 2) aq)) (aa (dg (bf 3) ao) aq)))))))))
theorem aqy:FnScope ["thing"] ["thing"] (bh (top 17)):=by walk_at "sc"
theorem m_8(C:Cn mg)(D_9:Dn P w K mg base k_9 "parts_count" ["thing","deep","most"] (jx K 3 F_9) a_9 d_9)(h_9:k_9<=k):MD P w K mg base f k ["thing"] "is_shape" (top 17) (yz F_9):=λcdv A outer s H E hr =>
 have SC:=aqy
 (az (dm (qd agu aax (iu D_9 hr h_9 (aa (bf 0) (aa (a7a rfl C.DEEPEST.choose_spec) (aa (a7a rfl C.MOST_PARTS.choose_spec) aq)))) ao (ud _))))
theorem aqz:FnScope ["thing","deep","most","count","part","more"] ["thing","deep","most"] (bh (top 18)):=by walk_at "sc"
theorem m_9(D_12:Dn P w K mg base k_12 "inner" ["shape"] (jx K 1 F_12) a_12 d_12)(h_12:k_12<=k)(D_10:Dn P w K mg base k_10 "is_form" ["thing"] (jx K 1 F_10) a_10 d_10)(h_10:k_10<=k)(D_9:Dn P w K mg base k_9 "parts_count" ["thing","deep","most"] (jx K 3 F_9) a_9 d_9)(h_9:k_9<=k):MD P w K mg base f k ["thing","deep","most","count","part","more"] "parts_count" (top 18) (u5 F_12 F_10 F_9):=λcdv A outer s H E hr =>
 have SC:=aqz
 (ak (j4 (PW.pt (a0c (jz (a74.or uc) a2o (bf 1) ao) (a0c (jz (a74.or uc) a2o (bf 2) ao) (zx (a2l (ue (iu D_10 hr h_10 (aa (bf 0) aq))))))))
 sy
 cu)
 (ak (ji 3 SC.nd ao)
 (ak (a84 cP rfl (a2n (iu D_12 hr h_12 (aa (bf 0) aq))) (lz (i:=4) SC.nd rfl (Or.inl rfl)) (ak (ji 5 SC.nd (iu D_9 hr h_9 (aa (bf 4) (aa (a3w (bf 1) ao) (aa (a3w (bf 2) (bf 3)) aq)))))
 (ak (j4 (jb hr.u (bf 5) ao)
 sy
 cu)
 (az (a82 (i:=3) SC.nd rfl (Or.inl rfl) (a0q.or qb) yu (bf 5))))))
 (az (dm (bf 3))))))
theorem am5:FnScope ["thing"] ["thing"] (bh (top 19)):=by walk_at "sc"
theorem asd(M:Nm mg)(D_11:Dn P w K mg base k_11 "are_times" ["low","high"] (jx K 2 F_11) a_11 d_11)(h_11:k_11<=k)(D_2:Dn P w K mg base k_2 "is_row" ["thing","low","high"] (jx K 3 F_2) a_2 d_2)(h_2:k_2<=k)(D_4:Dn P w K mg base k_4 "is_unlike_signs" ["thing"] (jx K 1 F_4) a_4 d_4)(h_4:k_4<=k):MD P w K mg base f k ["thing"] "is_form" (top 19) (a0l F_11 F_2 F_4):=λcdv A outer s H E hr =>
 have SC:=am5
 (ak (j4 (PW.pt (a0c (a2l (ue (iu D_2 hr h_2 (aa (bf 0) (aa ao (aa ao aq)))))) (zx (a2l (ue (ug (L2.CallR.or gm g8) jj rfl M.isinstance dw (aa (dq (bf 0) ao) (aa (zj rfl M.str a2j) aq))))))))
 sy
 cu)
 (ak (j4 (jb hr.u (dq (bf 0) ao) bj)
 (az (dm (ph (qd (xq hr.u) rn (tu M.len (aa (bf 0) aq)) ao (ud _)) (ut (iu D_4 hr h_4 (aa (dq (bf 0) ao) aq))))))
 cu)
 (ak (j4 (jb hr.u (dq (bf 0) ao) bj)
 (az (dm (ph (qd (xq hr.u) rn (tu M.len (aa (bf 0) aq)) ao (ud _)) (ut (iu D_2 hr h_2 (aa (dq (bf 0) ao) (aa ao (aa ao aq))))))))
 cu)
 (ak (j4 (jb hr.u (dq (bf 0) ao) bj)
 (az (dm (ph (qd (xq hr.u) rn (tu M.len (aa (bf 0) aq)) ao (ud _)) (ut (iu D_2 hr h_2 (aa (dq (bf 0) ao) (aa ao (aa ao aq))))))))
 cu)
 (ak (j4 (jb hr.u (dq (bf 0) ao) bj)
 (az (dm (qd (xq hr.u) rn (tu M.len (aa (bf 0) aq)) ao (ud _))))
 cu)
 (az (dm (ph (qd (xq hr.u) rn (dq (bf 0) ao) bj (ud _)) (ph (qd (xq hr.u) rn (tu M.len (aa (bf 0) aq)) ao (ud _)) (ut (iu D_11 hr h_11 (aa (dq (bf 0) ao) (aa (dq (bf 0) ao) aq)))))))))))))
theorem am6:FnScope ["low","high"] ["low","high"] (bh (top 20)):=by walk_at "sc"
theorem ase(D_1:Dn P w K mg base k_1 "is_number_from" ["thing","low","high"] (jx K 3 F_1) a_1 d_1)(h_1:k_1<=k):MD P w K mg base f k ["low","high"] "are_times" (top 20) (ww F_1):=λcdv A outer s H E hr =>
 have SC:=am6
 (az (dm (ph (iu D_1 hr h_1 (aa (bf 1) (aa ao (aa ao aq)))) (ut (iu D_1 hr h_1 (aa (bf 0) (aa ao (aa (bf 1) aq))))))))
theorem am7:FnScope ["shape"] ["shape"] (bh (top 21)):=by walk_at "sc"
theorem asf:MD P w K mg base f k ["shape"] "inner" (top 21) (a5e):=λcdv A outer s H E hr =>
 have SC:=am7
 (ak (j4 (jb hr.u (dq (bf 0) ao) bj)
 (az (dm (lu aq)))
 cu)
 (ak (j4 (PW.pt (a0c (jb hr.u (dq (bf 0) ao) bj) (zx (jb hr.u (dq (bf 0) ao) bj))))
 (az (dm (dq (bf 0) ao)))
 cu)
 (az (dm (lu (aa (dq (bf 0) ao) aq))))))
theorem am8:FnScope ["shape","parts"] ["shape"] (bh (top 24)):=by walk_at "sc"
theorem ash(D_12:Dn P w K mg base k_12 "inner" ["shape"] (jx K 1 F_12) a_12 d_12)(h_12:k_12<=k)(D_5:Dn P w K mg base k_5 "quoted" ["text"] (jx K 1 F_5) a_5 d_5)(h_5:k_5<=k)(D_13:Dn P w K mg base k_13 "shape_text" ["shape"] (jx K 1 F_13) a_13 apx)(h_13:k_13<=k):MD P w K mg base f k ["shape","parts"] "shape_text" (top 24) (uy F_12 F_5 F_13):=λcdv A outer s H E hr =>
 have SC:=am8
 (ak (j4 (jb hr.u (dq (bf 0) ao) bj)
 (az (dm (iu D_5 hr h_5 (aa (dq (bf 0) ao) aq))))
 cu)
 (ak (aea (i:=1) SC.nd rfl (Or.inl rfl) rfl (a9h ["part"]) (a2n (iu D_12 hr h_12 (aa (bf 0) aq))) (pgn 0) a3v (λ_ _ _ _=>(iu D_13 hr h_13 (aa (bf 0) aq))))
 (ak (j4 (jb hr.u (dq (bf 0) ao) bj)
 (az (dm (dg (dg bj (a9c bO bP a0t yt bj (aa (bf 1) aq))) bj)))
 cu)
 (ak (j4 (jb hr.u (dq (bf 0) ao) bj)
 (az (dm (dg (dg bj (a9c bO bP a0t yt bj (aa (bf 1) aq))) bj)))
 cu)
 (ak (j4 (jb hr.u (dq (bf 0) ao) bj)
 (az (dm (dg bj (dq (bf 1) ao))))
 cu)
 (az (dm (aid (a2u (abk (dq (bf 0) ao)) (a2u bj (a2u (abk (dq (bf 0) ao)) (a2u bj (a2u (abk (dq (bf 1) ao)) am3)))))))))))))
theorem am9:FnScope ["text","found","shape","end"] ["text"] (bh (top 25)):=by walk_at "sc"
theorem asi(M:Nm mg)(C:Cn mg)(D_8:Dn P w K mg base k_8 "is_shape" ["thing"] (jx K 1 F_8) a_8 d_8)(h_8:k_8<=k)(D_15:Dn P w K mg base k_15 "shape_at" ["text","at","deep"] (jx K 3 F_15) a_15 ank)(h_15:k_15<=k):MD P w K mg base f k ["text","found","shape","end"] "read_shape" (top 25) (uz F_8 F_15):=λcdv A outer s H E hr =>
 have SC:=am9
 (ak (ji 1 SC.nd (afb (ue (ug (L2.CallR.or gm g8) jj rfl M.isinstance dw (aa (bf 0) (aa (zj rfl M.str a2j) aq)))) (iu D_15 hr h_15 (aa (bf 0) (aa ao (aa (a7a rfl C.DEEPEST.choose_spec) aq)))) a3s))
 (ak (j4 (jz (a5o.or a0a) a6e (bf 1) a3s)
 sy
 cu)
 (ak (a3u (bf 1) (a3t rfl (m7 (lz (i:=2) SC.nd rfl (Or.inl rfl)) (m7 (lz (i:=3) SC.nd rfl (Or.inl rfl)) a0u))))
 (ak (j4 (PW.pt (a0c (jz (a0h hr.u) wj (bf 3) (tu M.len (aa (bf 0) aq))) (zx (a2l (ue (iu D_8 hr h_8 (aa (bf 2) aq)))))))
 sy
 cu)
 (az (dm (bf 2)))))))
theorem ama:FnScope ["text","at","deep","sign"] ["text","at","deep"] (bh (top 26)):=by walk_at "sc"
theorem asj(D_18:Dn P w K mg base k_18 "many_at" ["text","at","deep"] (jx K 3 F_18) a_18 d_18)(h_18:k_18<=k)(D_16:Dn P w K mg base k_16 "one_at" ["text","at"] (jx K 2 F_16) a_16 d_16)(h_16:k_16<=k)(D_17:Dn P w K mg base k_17 "parts_at" ["text","at","deep","form"] (jx K 4 F_17) a_17 d_17)(h_17:k_17<=k)(D_19:Dn P w K mg base k_19 "times_at" ["text","at","deep"] (jx K 3 F_19) a_19 d_19)(h_19:k_19<=k):MD P w K mg base f k ["text","at","deep","sign"] "shape_at" (top 26) (za F_18 F_16 F_17 F_19):=λcdv A outer s H E hr =>
 have SC:=ama
 (ak (j4 (jz (a74.or uc) a2o (bf 2) ao)
 sy
 cu)
 (ak (ji 3 SC.nd (jk (bf 0) (jf (bf 1)) (jf (dg (bf 1) ao))))
 (ak (j4 (jb hr.u (bf 3) bj)
 (az (dm (iu D_16 hr h_16 (aa (bf 0) (aa (bf 1) aq)))))
 cu)
 (ak (j4 (jb hr.u (bf 3) bj)
 (az (dm (iu D_17 hr h_17 (aa (bf 0) (aa (bf 1) (aa (bf 2) (aa (lu (aa bj (aa bj aq))) aq)))))))
 cu)
 (ak (j4 (jb hr.u (bf 3) bj)
 (az (dm (iu D_17 hr h_17 (aa (bf 0) (aa (bf 1) (aa (bf 2) (aa (lu (aa bj (aa bj aq))) aq)))))))
 cu)
 (ak (j4 (jb hr.u (bf 3) bj)
 (az (dm (iu D_18 hr h_18 (aa (bf 0) (aa (bf 1) (aa (bf 2) aq))))))
 cu)
 (az (dm (iu D_19 hr h_19 (aa (bf 0) (aa (bf 1) (aa (bf 2) aq))))))))))))
theorem amb:FnScope ["text","at","found","signs","end"] ["text","at"] (bh (top 27)):=by walk_at "sc"
theorem asl(D_7:Dn P w K mg base k_7 "quote_at" ["text","at"] (jx K 2 F_7) a_7 d_7)(h_7:k_7<=k):MD P w K mg base f k ["text","at","found","signs","end"] "one_at" (top 27) (a1v F_7):=λcdv A outer s H E hr =>
 have SC:=amb
 (ak (ji 2 SC.nd (iu D_7 hr h_7 (aa (bf 0) (aa (bf 1) aq))))
 (ak (j4 (jz (a5o.or a0a) a6e (bf 2) a3s)
 sy
 cu)
 (ak (a3u (bf 2) (a3t rfl (m7 (lz (i:=3) SC.nd rfl (Or.inl rfl)) (m7 (lz (i:=4) SC.nd rfl (Or.inl rfl)) a0u))))
 (az (dm (lu (aa (lu (aa bj (aa (bf 3) aq))) (aa (bf 4) aq))))))))
theorem amc:FnScope ["text","at","deep","form","word","ending","parts","place","found","part"] ["text","at","deep","form"] (bh (top 28)):=by walk_at "sc"
theorem asm(M:Nm mg)(D_15:Dn P w K mg base k_15 "shape_at" ["text","at","deep"] (jx K 3 F_15) a_15 ank)(h_15:k_15<=k):MD P w K mg base f k ["text","at","deep","form","word","ending","parts","place","found","part"] "parts_at" (top 28) (zb F_15):=λcdv A outer s H E hr =>
 have SC:=amc
 (ak (a3u (bf 3) (a3t rfl (m7 (lz (i:=4) SC.nd rfl (Or.inl rfl)) (m7 (lz (i:=5) SC.nd rfl (Or.inl rfl)) a0u))))
 (ak (ji 6 SC.nd (a6d aq))
 (ak (ji 7 SC.nd (dg (bf 1) ao))
 (ak (a83 100000 cP (jz (a0h hr.u) wj (jk (bf 0) (jf (bf 7)) (jf (dg (bf 7) ao))) (bf 5)) (ak (j4 (ue (bf 6))
 (ak (j4 (jz (a0h hr.u) wj (jk (bf 0) (jf (bf 7)) (jf (dg (bf 7) ao))) bj)
 sy
 cu)
 (az (a82 (i:=7) SC.nd rfl (Or.inl rfl) (a0q.or qb) yu ao)))
 cu)
 (ak (ji 8 SC.nd (iu D_15 hr h_15 (aa (bf 0) (aa (bf 7) (aa (a3w (bf 2) ao) aq)))))
 (ak (j4 (jz (a5o.or a0a) a6e (bf 8) a3s)
 sy
 cu)
 (ak (a3u (bf 8) (a3t rfl (m7 (lz (i:=9) SC.nd rfl (Or.inl rfl)) (m7 (lz (i:=7) SC.nd rfl (Or.inl rfl)) a0u))))
 (az (a7b (ahw cX cY a2d a7e (bf 6) (aa (bf 9) aq)))))))))
 (az (dm (lu (aa (lu (aa (bf 4) (aa (a2m (L2.CallR.or a09 (a1f rfl)) a6g rfl M.tuple a0b (aa (bf 6) aq)) aq))) (aa (dg (bf 7) ao) aq)))))))))
theorem amd:FnScope ["text","at","deep","found","part","end"] ["text","at","deep"] (bh (top 29)):=by walk_at "sc"
theorem asn(D_15:Dn P w K mg base k_15 "shape_at" ["text","at","deep"] (jx K 3 F_15) a_15 ank)(h_15:k_15<=k):MD P w K mg base f k ["text","at","deep","found","part","end"] "many_at" (top 29) (a0n F_15):=λcdv A outer s H E hr =>
 have SC:=amd
 (ak (ji 3 SC.nd (iu D_15 hr h_15 (aa (bf 0) (aa (dg (bf 1) ao) (aa (a3w (bf 2) ao) aq)))))
 (ak (j4 (jz (a5o.or a0a) a6e (bf 3) a3s)
 sy
 cu)
 (ak (a3u (bf 3) (a3t rfl (m7 (lz (i:=4) SC.nd rfl (Or.inl rfl)) (m7 (lz (i:=5) SC.nd rfl (Or.inl rfl)) a0u))))
 (az (dm (lu (aa (lu (aa bj (aa (bf 4) aq))) (aa (bf 5) aq))))))))
theorem ame:FnScope ["text","at","deep","head","found","part","end"] ["text","at","deep"] (bh (top 30)):=by walk_at "sc"
theorem aso(M:Nm mg)(G:Kn P w K mg)(D_15:Dn P w K mg base k_15 "shape_at" ["text","at","deep"] (jx K 3 F_15) a_15 ank)(h_15:k_15<=k):MD P w K mg base f k ["text","at","deep","head","found","part","end"] "times_at" (top 30) (zc F_15):=λcdv A outer s H E hr =>
 have SC:=ame
 (ak (ji 3 SC.nd (jk (bf 0) (jf (bf 1)) (jf (dg (bf 1) ao))))
 (ak (j4 (PW.pt (a0c (jz (a0h hr.u) wj (jk (bf 3) (jf ao) (jf ao)) bj) (a0c (jz (a0h hr.u) wj (jk (bf 3) (jf ao) (jf ao)) bj) (a0c (afy G.FIGURES.choose_spec.2 rfl G.FIGURES.choose_spec.1 (dq (bf 3) ao)) (zx (afy G.FIGURES.choose_spec.2 rfl G.FIGURES.choose_spec.1 (dq (bf 3) ao)))))))
 sy
 cu)
 (ak (ji 4 SC.nd (iu D_15 hr h_15 (aa (bf 0) (aa (dg (bf 1) ao) (aa (a3w (bf 2) ao) aq)))))
 (ak (j4 (jz (a5o.or a0a) a6e (bf 4) a3s)
 sy
 cu)
 (ak (a3u (bf 4) (a3t rfl (m7 (lz (i:=5) SC.nd rfl (Or.inl rfl)) (m7 (lz (i:=6) SC.nd rfl (Or.inl rfl)) a0u))))
 (az (dm (lu (aa (lu (aa bj (aa (bf 5) (aa (a2m (L2.CallR.or a5q a6o) a8j rfl M.int a6c (aa (dq (bf 3) ao) aq)) (aa (a2m (L2.CallR.or a5q a6o) a8j rfl M.int a6c (aa (dq (bf 3) ao) aq)) aq))))) (aa (bf 6) aq))))))))))
theorem amf:FnScope ["_law_script"] ["_law_script"] (bh (top 32)):=by walk_at "sc"
theorem asp(M:Nm mg):MD P w K mg base f k ["_law_script"] "_law_hand" (top 32) (HND.a1b):=λcdv A outer s H E hr =>
 have SC:=amf
 (az (dm (a6d (aa (afs (a2m (L2.CallR.or a65 (a77 rfl)) ae1 rfl M.list ahc (aa (afs (jk (bf 0) a4s (jf ao))) aq))) (aa ao (aa ao (aa ao (aa ao aq))))))))
theorem amg:FnScope ["_law_hand_here","_law_many","_law_cell","_law_told"] ["_law_hand_here","_law_many"] (bh (top 33)):=by walk_at "sc"
theorem asq(M:Nm mg):MD P w K mg base f k ["_law_hand_here","_law_many","_law_cell","_law_told"] "_law_take" (top 33) (HND.a1c):=λcdv A outer s H E hr =>
 have SC:=amg
 (ak (j4 (jz (a74.or uc) a2o (bf 1) ao)
 (az (dm ao))
 cu)
 (ak (j4 (PW.pt (a81 (jb hr.u (dq (bf 0) ao) ao) (a4p (jz (a74.or uc) a2o (dq (bf 0) ao) (tu M.len (aa (dq (bf 0) ao) aq))))))
 (ak (ji 2 SC.nd (dq (dq (bf 0) ao) (dq (bf 0) ao)))
 (ak (a7i (bf 0) ao ao (a0q.or qb) yu)
 (ak (aas (a88 (dg (abg (dq (bf 0) ao) ao) (bf 2)) ao) (bf 0) ao)
 (az (j4 (jz aol akx (ug a7t ab1 rfl M.abs af8 (aa (bf 2) aq)) (afj ao ao))
 (az (aas (ug a7t ab1 rfl M.abs af8 (aa (bf 2) aq)) (bf 0) ao))
 cu)))))
 cu)
 (ak (j4 (jz agu aax (dq (bf 0) ao) ao)
 (ak (ji 3 SC.nd (a88 (dq (bf 0) ao) (bf 1)))
 (ak (aas (afi (dq (bf 0) ao) (bf 1)) (bf 0) ao)
 (az (dm (bf 3)))))
 cu)
 (ak (a7i (bf 0) ao ao (a0q.or qb) yu)
 (az (dm (a88 (afi (a88 (afj (dg (dq (bf 0) ao) (abg ao (dq (bf 0) ao))) ao) ao) ao) (bf 1))))))))
theorem amh:FnScope ["_law_some"] [] (bh (top 34)):=by walk_at "sc"
theorem asr:MD P w K mg base f k ["_law_some"] "_law_signs" (top 34) (HND.uh):=λcdv A outer s H E hr =>
 have SC:=amh
 (ak (ji 0 SC.nd bj)
 (az (dm (dg (bf 0) bj))))
theorem ami:FnScope ["_law_hand_here","_law_manner","_law_some"] ["_law_hand_here","_law_manner"] (bh (top 35)):=by walk_at "sc"
theorem ass(M:Nm mg)(D_22:Dn P w K mg base k_22 "_law_signs" [] (jx K 0 F_22) a_22 d_22)(h_22:k_22<=k)(D_21:Dn P w K mg base k_21 "_law_take" ["_law_hand_here","_law_many"] (jx K 2 F_21) a_21 d_21)(h_21:k_21<=k):MD P w K mg base f k ["_law_hand_here","_law_manner","_law_some"] "_law_sign" (top 35) (K76.vp F_22 F_21):=λcdv A outer s H E hr =>
 have SC:=ami
 (ak (ji 2 SC.nd (abe false D_22 (hr.mono h_22) rfl))
 (ak (j4 (jb hr.u (bf 1) ao)
 (az (ji 2 SC.nd bj))
 cu)
 (az (dm (dq (bf 2) (iu D_21 hr h_21 (aa (bf 0) (aa (tu M.len (aa (bf 2) aq)) aq))))))))
theorem amj:FnScope ["_law_text","_law_told","_law_sign_here"] ["_law_text"] (bh (top 36)):=by walk_at "sc"
theorem asu:MD P w K mg base f k ["_law_text","_law_told","_law_sign_here"] "_law_quote" (top 36) (K76.wk):=λcdv A outer s H E hr =>
 have SC:=amj
 (ak (ji 1 SC.nd bj)
 (ak (a84 cP rfl (a2n (bf 0)) (lz (i:=2) SC.nd rfl (Or.inl rfl)) (az (j4 (jb hr.u (bf 2) bj)
 (az (ji 1 SC.nd (dg (bf 1) bj)))
 (az (j4 (PW.pt (a0c (jb hr.u (bf 2) bj) (zx (jb hr.u (bf 2) bj))))
 (az (ji 1 SC.nd (dg (dg (bf 1) bj) (bf 2))))
 (az (ji 1 SC.nd (dg (bf 1) (bf 2)))))))))
 (az (dm (dg (dg bj (bf 1)) bj)))))
theorem amk:FnScope ["_law_hand_here","_law_manner","_law_tongue_here","_law_turn","_law_sign_here"] ["_law_hand_here"] (bh (top 37)):=by walk_at "sc"
theorem asv(M:Nm mg)(D_23:Dn P w K mg base k_23 "_law_sign" ["_law_hand_here","_law_manner"] (jx K 2 F_23) a_23 d_23)(h_23:k_23<=k)(D_21:Dn P w K mg base k_21 "_law_take" ["_law_hand_here","_law_many"] (jx K 2 F_21) a_21 d_21)(h_21:k_21<=k):MD P w K mg base f k ["_law_hand_here","_law_manner","_law_tongue_here","_law_turn","_law_sign_here"] "_law_tongue" (top 37) (v4 F_23 F_21):=λcdv A outer s H E hr =>
 have SC:=amk
 (ak (ji 1 SC.nd (iu D_21 hr h_21 (aa (bf 0) (aa ao aq))))
 (ak (ji 2 SC.nd bj)
 (ak (a84 cP rfl (a7c rfl M.range (aa (dg ao (iu D_21 hr h_21 (aa (bf 0) (aa ao aq)))) aq)) (lz (i:=3) SC.nd rfl (Or.inl rfl)) (ak (ji 4 SC.nd (iu D_23 hr h_23 (aa (bf 0) (aa (bf 1) aq))))
 (az (j4 (a2k (a3q.or yf) ab0 (bf 4) (bf 2) (by with_unfolding_all rfl))
 (az (ji 2 SC.nd (dg (bf 2) (bf 4))))
 cu))))
 (az (dm (bf 2))))))
theorem aml:FnScope ["_law_hand_here","_law_tongue_here","_law_rest","_law_signs_here","_law_turn","_law_at"] ["_law_hand_here","_law_tongue_here"] (bh (top 38)):=by walk_at "sc"
theorem asw(M:Nm mg)(D_21:Dn P w K mg base k_21 "_law_take" ["_law_hand_here","_law_many"] (jx K 2 F_21) a_21 d_21)(h_21:k_21<=k):MD P w K mg base f k ["_law_hand_here","_law_tongue_here","_law_rest","_law_signs_here","_law_turn","_law_at"] "_law_one" (top 38) (a0o F_21):=λcdv A outer s H E hr =>
 have SC:=aml
 (ak (ji 2 SC.nd (bf 1))
 (ak (ji 3 SC.nd bj)
 (ak (a84 cP rfl (a7c rfl M.range (aa (dg ao (iu D_21 hr h_21 (aa (bf 0) (aa (tu M.len (aa (bf 1) aq)) aq)))) aq)) (lz (i:=4) SC.nd rfl (Or.inl rfl)) (ak (ji 5 SC.nd (iu D_21 hr h_21 (aa (bf 0) (aa (tu M.len (aa (bf 2) aq)) aq))))
 (ak (ji 3 SC.nd (dg (bf 3) (dq (bf 2) (bf 5))))
 (az (ji 2 SC.nd (dg (jk (bf 2) a4s (jf (bf 5))) (jk (bf 2) (jf (dg (bf 5) ao)) a4s)))))))
 (az (dm (lu (aa bj (aa (bf 3) aq))))))))
theorem amm:FnScope ["_law_hand_here","_law_tongue_here","_law_purse","_law_deep","_law_which","_law_many","_law_parts","_law_high"] ["_law_hand_here","_law_tongue_here","_law_purse","_law_deep"] (bh (top 39)):=by walk_at "sc"
theorem asx(M:Nm mg)(D_26:Dn P w K mg base k_26 "_law_one" ["_law_hand_here","_law_tongue_here"] (jx K 2 F_26) a_26 d_26)(h_26:k_26<=k)(D_21:Dn P w K mg base k_21 "_law_take" ["_law_hand_here","_law_many"] (jx K 2 F_21) a_21 d_21)(h_21:k_21<=k)(D_27:Dn P w K mg base k_27 "_law_wide" ["_law_hand_here","_law_tongue_here","_law_purse","_law_deep"] (jx K 4 F_27) a_27 apy)(h_27:k_27<=k):MD P w K mg base f k ["_law_hand_here","_law_tongue_here","_law_purse","_law_deep","_law_which","_law_many","_law_parts","_law_high"] "_law_wide" (top 39) (zf F_26 F_21 F_27):=λcdv A outer s H E hr =>
 have SC:=amm
 (ak (ji 4 SC.nd (iu D_21 hr h_21 (aa (bf 0) (aa ao aq))))
 (ak (j4 (PW.pt (a0c (jb hr.u (bf 3) ao) (a0c (jb hr.u (dq (bf 2) ao) ao) (zx (jz (a74.or uc) a2o (bf 4) ao)))))
 (ak (j4 (jb hr.u (bf 4) ao)
 (az (dm (lu (aa bj (aa (lu aq) aq)))))
 cu)
 (az (dm (iu D_26 hr h_26 (aa (bf 0) (aa (bf 1) aq))))))
 cu)
 (ak (ji 5 SC.nd ao)
 (ak (j4 (jz agu aax (bf 4) ao)
 (az (ji 5 SC.nd (ug (aa0 rfl) ae0 rfl M.min al9 (aa (dq (bf 2) ao) (aa (dg ao (iu D_21 hr h_21 (aa (bf 0) (aa ao aq)))) aq)))))
 cu)
 (ak (a7i (bf 2) ao (bf 5) agt aaw)
 (ak (ji 6 SC.nd (a2m (L2.CallR.or a09 (a1f rfl)) a6g rfl M.tuple a0b (aa (afs (a0w rfl (ap8 ["_law_turn"] ["_law_hand_here","_law_tongue_here","_law_purse","_law_deep"] [0,1,2,3]) (a7c rfl M.range (aa (bf 5) aq)) (pgn 0) a3v (λ_ _ _ _=>(iu D_27 hr h_27 (aa (bf 1) (aa (bf 2) (aa (bf 3) (aa (a3w (bf 4) ao) aq)))))))) aq)))
 (ak (j4 (jb hr.u (bf 4) ao)
 (az (dm (lu (aa bj (aa (dq (bf 6) ao) aq)))))
 cu)
 (ak (j4 (jb hr.u (bf 4) ao)
 (ak (ji 7 SC.nd (iu D_21 hr h_21 (aa (bf 0) (aa ao aq))))
 (az (dm (lu (aa bj (aa (dq (bf 6) ao) (aa (iu D_21 hr h_21 (aa (bf 0) (aa (dg (bf 7) ao) aq))) (aa (bf 7) aq))))))))
 cu)
 (ak (j4 (jz (a74.or uc) a2o (bf 4) ao)
 (az (dm (lu (aa bj (aa (bf 6) aq)))))
 cu)
 (az (dm (lu (aa bj (aa (bf 6) aq))))))))))))))
theorem amn:FnScope ["_law_shape"] ["_law_shape"] (bh (top 40)):=by walk_at "sc"
theorem asy(D_24:Dn P w K mg base k_24 "_law_quote" ["_law_text"] (jx K 1 F_24) a_24 d_24)(h_24:k_24<=k)(D_28:Dn P w K mg base k_28 "_law_written" ["_law_shape"] (jx K 1 F_28) a_28 apz)(h_28:k_28<=k):MD P w K mg base f k ["_law_shape"] "_law_written" (top 40) (u9 F_24 F_28):=λcdv A outer s H E hr =>
 have SC:=amn
 (ak (j4 (jb hr.u (dq (bf 0) ao) bj)
 (az (dm (iu D_24 hr h_24 (aa (dq (bf 0) ao) aq))))
 cu)
 (ak (j4 (jb hr.u (dq (bf 0) ao) bj)
 (az (dm (dg (dg bj (a9c bO bP a0t yt bj (aa (afs (a0w rfl (a9h ["_law_part"]) (a2n (dq (bf 0) ao)) (pgn 0) a3v (λ_ _ _ _=>(iu D_28 hr h_28 (aa (bf 0) aq))))) aq))) bj)))
 cu)
 (ak (j4 (jb hr.u (dq (bf 0) ao) bj)
 (az (dm (dg (dg bj (a9c bO bP a0t yt bj (aa (afs (a0w rfl (a9h ["_law_part"]) (a2n (dq (bf 0) ao)) (pgn 0) a3v (λ_ _ _ _=>(iu D_28 hr h_28 (aa (bf 0) aq))))) aq))) bj)))
 cu)
 (ak (j4 (jb hr.u (dq (bf 0) ao) bj)
 (az (dm (dg bj (iu D_28 hr h_28 (aa (dq (bf 0) ao) aq)))))
 cu)
 (az (dm (dg (dg (dg (dg (dq bj (dq (bf 0) ao)) bj) (dq bj (dq (bf 0) ao))) bj) (iu D_28 hr h_28 (aa (dq (bf 0) ao) aq)))))))))
theorem amo:FnScope ["_law_one_here","_law_other"] ["_law_one_here","_law_other"] (bh (top 41)):=by walk_at "sc"
theorem asz(M:Nm mg)(D_29:Dn P w K mg base k_29 "_law_alike" ["_law_one_here","_law_other"] (jx K 2 F_29) a_29 aq0)(h_29:k_29<=k):MD P w K mg base f k ["_law_one_here","_law_other"] "_law_alike" (top 41) (wz F_29):=λcdv A outer s H E hr =>
 have SC:=amo
 (ak (j4 (PW.pt (a81 (ue (ug (L2.CallR.or gm g8) jj rfl M.isinstance dw (aa (bf 0) (aa (zj rfl M.tuple a0b) aq)))) (a4p (ue (ug (L2.CallR.or gm g8) jj rfl M.isinstance dw (aa (bf 1) (aa (zj rfl M.tuple a0b) aq)))))))
 (az (dm (ph (qd (xq hr.u) rn (tu M.len (aa (bf 0) aq)) (tu M.len (aa (bf 1) aq)) (ud _)) (ut (ug (a2f rfl) ab3 rfl M.all af7 (aa (afs (a0w rfl (a9h ["_law_a","_law_b"]) (alb rfl M.zip alc (bf 0) (bf 1)) (λ_ _ _ _=>aex rfl (a4e (pgm 0) (a4e (pgm 1) a9t))) akt (λ_ _ _ _=>(iu D_29 hr h_29 (aa (bf 0) (aa (bf 1) aq)))))) aq))))))
 cu)
 (ak (j4 (PW.pt (a81 (ue (ug (L2.CallR.or gm g8) jj rfl M.isinstance dw (aa (bf 0) (aa (zj rfl M.str a2j) aq)))) (a4p (ue (ug (L2.CallR.or gm g8) jj rfl M.isinstance dw (aa (bf 1) (aa (zj rfl M.str a2j) aq)))))))
 (az (dm (qd (xq hr.u) rn (bf 0) (bf 1) (ud _))))
 cu)
 (ak (j4 (PW.pt (a0c (ue (ug (L2.CallR.or gm g8) jj rfl M.isinstance dw (aa (bf 0) (aa (zj rfl M.bool a7h) aq)))) (zx (ue (ug (L2.CallR.or gm g8) jj rfl M.isinstance dw (aa (bf 1) (aa (zj rfl M.bool a7h) aq)))))))
 sy
 cu)
 (az (dm (ph (ug (L2.CallR.or gm g8) jj rfl M.isinstance dw (aa (bf 0) (aa (zj rfl M.int a6c) aq))) (ph (ug (L2.CallR.or gm g8) jj rfl M.isinstance dw (aa (bf 1) (aa (zj rfl M.int a6c) aq))) (ut (qd (xq hr.u) rn (bf 0) (bf 1) (ud _))))))))))
theorem amq:FnScope ["_law_shape","_law_due","_law_found"] ["_law_shape"] (bh (top 42)):=by walk_at "sc"
theorem at5(M:Nm mg)(D_29:Dn P w K mg base k_29 "_law_alike" ["_law_one_here","_law_other"] (jx K 2 F_29) a_29 aq0)(h_29:k_29<=k)(D_28:Dn P w K mg base k_28 "_law_written" ["_law_shape"] (jx K 1 F_28) a_28 apz)(h_28:k_28<=k)(D_14:Dn P w K mg base k_14 "read_shape" ["text"] (jx K 1 F_14) a_14 d_14)(h_14:k_14<=k)(D_13:Dn P w K mg base k_13 "shape_text" ["shape"] (jx K 1 F_13) a_13 apx)(h_13:k_13<=k):MD P w K mg base f k ["_law_shape","_law_due","_law_found"] "_law_right" (top 42) (xf F_29 F_28 F_14 F_13):=λcdv A outer s H E hr =>
 have SC:=amq
 (ak (ji 1 SC.nd (iu D_28 hr h_28 (aa (bf 0) aq)))
 (ak (ji 2 SC.nd (iu D_13 hr h_13 (aa (bf 0) aq)))
 (az (dm (ph (ug (L2.CallR.or gm g8) jj rfl M.isinstance dw (aa (bf 2) (aa (zj rfl M.str a2j) aq))) (ph (qd (xq hr.u) rn (bf 2) (bf 1) (ud _)) (ut (iu D_29 hr h_29 (aa (iu D_14 hr h_14 (aa (bf 1) aq)) (aa (bf 0) aq))))))))))
theorem amr:FnScope ["_law_script","_law_hand_here","_law_one_here","_law_other"] ["_law_script"] (bh (top 43)):=by walk_at "sc"
theorem at6(D_20:Dn P w K mg base k_20 "_law_hand" ["_law_script"] (jx K 1 F_20) a_20 d_20)(h_20:k_20<=k)(D_30:Dn P w K mg base k_30 "_law_right" ["_law_shape"] (jx K 1 F_30) a_30 d_30)(h_30:k_30<=k)(D_21:Dn P w K mg base k_21 "_law_take" ["_law_hand_here","_law_many"] (jx K 2 F_21) a_21 d_21)(h_21:k_21<=k)(D_25:Dn P w K mg base k_25 "_law_tongue" ["_law_hand_here"] (jx K 1 F_25) a_25 d_25)(h_25:k_25<=k)(D_27:Dn P w K mg base k_27 "_law_wide" ["_law_hand_here","_law_tongue_here","_law_purse","_law_deep"] (jx K 4 F_27) a_27 apy)(h_27:k_27<=k):MD P w K mg base f k ["_law_script","_law_hand_here","_law_one_here","_law_other"] "law" (top 43) (aei F_20 F_30 F_21 F_25 F_27):=λcdv A outer s H E hr =>
 have SC:=amr
 (ak (ji 1 SC.nd (a8e true D_20 (hr.mono h_20) rfl (aa (bf 0) aq)))
 (ak (ji 2 SC.nd (iu D_27 hr h_27 (aa (bf 1) (aa (iu D_25 hr h_25 (aa (bf 1) aq)) (aa (a6d (aa ao aq)) (aa (dg ao (iu D_21 hr h_21 (aa (bf 1) (aa ao aq)))) aq))))))
 (ak (ji 3 SC.nd (iu D_27 hr h_27 (aa (bf 1) (aa (iu D_25 hr h_25 (aa (bf 1) aq)) (aa (a6d (aa ao aq)) (aa (dg ao (iu D_21 hr h_21 (aa (bf 1) (aa ao aq)))) aq))))))
 (az (dm (ph (iu D_30 hr h_30 (aa (bf 2) aq)) (ph (iu D_30 hr h_30 (aa (bf 3) aq)) (ut (iu D_30 hr h_30 (aa (bf 2) aq))))))))))
end
end K78
namespace MI
open L2
abbrev S(l:List Nat):Str:=⟨l.toArray⟩
theorem zr(l:List Nat):(S l).cps.toList=l:=by simp
theorem zu(l:List Nat):(S l).length=l.length:=by simp[Str.length]
theorem abl(x:Str):S x.cps.toList=x:=by cases x;simp
theorem a9j(a b:List Nat):S a++S b=S (a++b):=by rw[<-abl (S a++S b),aoz]
theorem aej(h:S a=S b):a=b:=by
 have:=ah (λx:Str=>x.cps.toList) h
 simpa using this
theorem aek(a b:List Nat):(S a == S b)=decide (a=b):=by
 by_cases h:a=b
 ·subst h;simp
 ·have:¬ S a=S b:=λz=>h (aej z)
  simp[h]
section
variable{h:Hd}{a b l:List Nat}{i:Nat}{c:Nat}
theorem aj6(hl:l.length<=LINE)(e:l[i]? = some c):gIx (.str (S l)) (.int (i:Nat)) h=.ok (.str (S [c])) h:=by
 unfold gIx;simp only[zu,aJ hl,zr,qy e]
theorem qg(hl:a.length+b.length<=LINE):gk (.str (S a)) (.str (S b)) h=.ok (.str (S (a++b))) h:=by
 unfold gk;simp only[zu,aJ hl,a9j]
theorem a9k(hl:l.length<=LINE):wg [.str (S l)] h=.ok (.int l.length) h:=by
 unfold wg;simp only[zu,aJ hl]
theorem ar0(k:Nat)(hl:l.length<=LINE):a9f (.str (S l)) none (some (k:Int)) h=.ok (.str (S (l.take k))) h:=by
 show gSl (.str (S l)) none (some (k:Int)) h=_;unfold gSl;simp only[zu,aJ hl,zr,aan]
theorem ams(k:Nat)(hl:l.length<=LINE):a9f (.str (S l)) (some (k:Int)) none h=.ok (.str (S (l.drop k))) h:=by
 show gSl (.str (S l)) (some (k:Int)) none h=_;unfold gSl;simp only[zu,aJ hl,zr,aao]
theorem ap9(j k:Nat)(hl:l.length<=LINE):a9f (.str (S l)) (some (j:Int)) (some (k:Int)) h=.ok (.str (S ((l.drop j).take (k-j)))) h:=by
 show gSl (.str (S l)) (some (j:Int)) (some (k:Int)) h=_;unfold gSl;simp only[zu,aJ hl,zr,ahe]
end
section
variable{h:Hd}{i j:Int}{xs ys:List D}
theorem a5w:gIx (.tup xs) (.int i) h=(match atI xs i with|some d=>.ok d h|none=>.no):=rfl
theorem abm:gIx (.rol xs) (.int i) h=(match atI xs i with|some d=>.ok d h|none=>.no):=rfl
theorem afz:gIx (.ref k) (.int i) h=(match uv (.ref k) h with|some xs=>(match atI xs i with|some d=>.ok d h|none=>.no)|none=>.no):=rfl
theorem a7o:wg [.tup xs] h=.ok (.int xs.length) h:=rfl
theorem abn:wg [.rol xs] h=.ok (.int xs.length) h:=rfl
theorem abo:wg [.ref k] h=(match uv (.ref k) h with|some xs=>.ok (.int xs.length) h|none=>.no):=rfl
theorem m5:gk (.int i) (.int j) h=.ok (.int (i+j)) h:=rfl
theorem a1d:a3j (.int i) (.int j) h=.ok (.int (i+j)) h:=rfl
open Classical in
theorem ag0:a1m (.int i) (.int j) h=if CMul i j then .ok (.int (i*j)) h else .no:=by unfold a1m;rfl
theorem n6(b:Bool):tru (.bl b) h=.ok b h:=rfl
theorem abp:tru (.int i) h=.ok (i != 0) h:=rfl
theorem abq:tru (.rol xs) h=.ok (!xs.isEmpty) h:=rfl
theorem abr:tru (.tup xs) h=.ok (!xs.isEmpty) h:=rfl
theorem abt:tru .non h=.ok false h:=rfl
theorem abu:hEq (.int i) (.int j) h=.ok (.bl (i == j)) h:=rfl
theorem abv:hNe (.int i) (.int j) h=.ok (.bl (!(i == j))) h:=rfl
theorem ael(a b:Str):hEq (.str a) (.str b) h=.ok (.bl (a == b)) h:=rfl
theorem apa(a b:Str):hNe (.str a) (.str b) h=.ok (.bl (!(a == b))) h:=rfl
theorem amt(a b:Bool):hEq (.bl a) (.bl b) h=.ok (.bl (a == b)) h:=rfl
theorem amu(a b:Bool):hNe (.bl a) (.bl b) h=.ok (.bl (!(a == b))) h:=rfl
theorem ag1(x:D):gIs x .non h=.ok (.bl (a3i x)) h:=by cases x<;>rfl
theorem a6p(x:D):afl x .non h=.ok (.bl (!a3i x)) h:=by cases x<;>rfl
theorem amv(a b:Bool):gIs (.bl a) (.bl b) h=.ok (.bl (a == b)) h:=rfl
theorem a8k(a b:Bool):afl (.bl a) (.bl b) h=.ok (.bl (a != b)) h:=rfl
theorem ar5:a3i (.int i)=false:=rfl
theorem ar6(x:Str):a3i (.str x)=false:=rfl
theorem ar7:a3i .non=true:=rfl
theorem ar8:a3i (.tup xs)=false:=rfl
end
theorem apb(n:Nat):rng 0 n=(List.range n).map λi:Nat=>D.int (i:Nat):=by
 unfold rng;exact List.map_congr_left λi _=>by rw[Int.zero_add]
theorem aif(h:n<=LINE):B62 (n:Int):=by
 have:n<=16777216:=h
 unfold B62;omega
theorem ag2(h:Hd)(z:n<=LINE):a0v [.int (n:Nat)] h=.ok ⟨(List.range n).map λi:Nat=>D.int (i:Nat),λ_=>True⟩ h:=by
 unfold a0v;simp only[aif z,dA,dv,apb]
theorem apc(e:f τ h=.ok d h):aj f dh τ h=.ok [d] h:=by unfold aj dh;rw[e];rfl
theorem aig(e:f τ h=.ok (.int (n:Nat)) h)(z:n<=LINE):sRg a0v (aj f dh) τ h=.ok ⟨(List.range n).map λi:Nat=>D.int (i:Nat),λ_=>True⟩ h:=by
 unfold sRg;rw[apc e,bw];exact ag2 h z
theorem bx(e:τ[i]? = some (some d)):sV i τ h=.ok d h:=by unfold sV;rw[e]
theorem yq{fi:SI}{t:D->Option Sd}{fe:SE}{ix:List Nat}{τ:Sd}{h:Hd}{α:Type}(g F:α->D)(xs:List α)(e:fi τ h=.ok ⟨xs.map g,λ_=>True⟩ h)(z:xs.length<=LINE)
  (st:∀x∈xs,a3h t fe (frs' ix τ) (g x) h=.ok (F x) h):vg fi t fe ix τ h=.ok (.ref h.length) (h++[.lst (xs.map F)]):=by
 unfold vg;rw[e,bw];dsimp only;rw[aJ (by rw[aS];exact z),a6n g F st]
 rfl
theorem a2v(fe:SE)(r:Sd)(x:D)(h:Hd):a3h t1 fe r x h=fe (some x::r) h:=rfl
section
variable{f k f1 f2 f3:SE}{c c1 c2:ST}{g p q:SS}{τ τ1:Sd}{h h1 h2 h3 h4:Hd}{a b d v:D}{i:Nat}{t u:Bool}
theorem aj7(d:D)(τ:Sd)(h:Hd):sC d τ h=.ok d h:=rfl
theorem apd(e3:G [] h=.ok v h1):sA G dh τ h=.ok v h1:=e3
theorem uq(e1:f τ h=.ok a h1)(e3:G [a] h1=.ok v h2):sA G (aj f dh) τ h=.ok v h2:=by
 have:aj f dh τ h=.ok [a] h1:=by unfold aj;rw[e1];rfl
 unfold sA;rw[this,bw,e3]
theorem qi(e1:f τ h=.ok a h1)(e2:k τ h1=.ok b h2)(e3:G [a,b] h2=.ok v h3):sA G (aj f (aj k dh)) τ h=.ok v h3:=by
 have:aj f (aj k dh) τ h=.ok [a,b] h2:=by unfold aj;rw[e1,bw,e2];rfl
 unfold sA;rw[this,bw,e3]
theorem aem(e0:f1 τ h=.ok d h1)(e1:f τ h1=.ok a h2)(e2:k τ h2=.ok b h3)(e3:G [d,a,b] h3=.ok v h4):sA G (aj f1 (aj f (aj k dh))) τ h=.ok v h4:=by
 have:aj f1 (aj f (aj k dh)) τ h=.ok [d,a,b] h3:=by unfold aj;rw[e0,bw,e1,bw,e2];rfl
 unfold sA;rw[this,bw,e3]
theorem um(e:f τ h=.ok d h1):il (o8 i f) g τ h=g (τ.set i (some d)) h1:=by
 rw[ux];unfold o8;rw[e];rfl
theorem aih(e:f τ h=.ok d h1):o8 i f τ h=.nx (τ.set i (some d)) h1:=by
 unfold o8;rw[e];rfl
theorem a0p(e:p τ h=.nx τ1 h1):il p g τ h=g τ1 h1:=by rw[ux,e];rfl
theorem mq(e:p τ h=.rt d h1):il p g τ h=.rt d h1:=by rw[ux,e];rfl
theorem ifT(e:c τ h=.ok true h1):sIf c p q τ h=p τ h1:=by unfold sIf;rw[e];rfl
theorem ifF(e:c τ h=.ok false h1):sIf c p q τ h=q τ h1:=by unfold sIf;rw[e];rfl
theorem ifN(e:c τ h=.ok false h1):il (sIf c p sNx) g τ h=g τ h1:=by rw[ux,ifF e];rfl
theorem tof(e:f τ h=.ok (.bl t) h1):sT f τ h=.ok t h1:=by unfold sT;rw[e];rfl
theorem vy(e:f τ h=.ok d h1)(e':tru d h1=.ok t h2):a3e f τ h=.ok t h2:=by unfold a3e;rw[e,bw,e']
theorem amw(e:c1 τ h=.ok true h1)(e':c2 τ h1=.ok t h2):aaq c1 c2 τ h=.ok t h2:=by unfold aaq;rw[e,bw,aJ rfl,e']
theorem amx(e:c1 τ h=.ok false h1):aaq c1 c2 τ h=.ok false h1:=by unfold aaq;rw[e,bw,aY (by simp)]
theorem orT(e:c1 τ h=.ok true h1):sOr c1 c2 τ h=.ok true h1:=by unfold sOr;rw[e,bw,aJ rfl]
theorem orF(e:c1 τ h=.ok false h1)(e':c2 τ h1=.ok t h2):sOr c1 c2 τ h=.ok t h2:=by unfold sOr;rw[e,bw,aY (by simp),e']
theorem amy(e:c τ h=.ok t h1):a70 c τ h=.ok (!t) h1:=by unfold a70;rw[e];rfl
theorem aii(e:c τ h=.ok true h1):a70 c τ h=.ok false h1:=amy e
theorem anx(e:c τ h=.ok false h1):a70 c τ h=.ok true h1:=amy e
theorem ig(e:f τ h=.ok d h1):jw f τ h=.rt d h1:=by unfold jw;rw[e];rfl
theorem xg(e:f τ h=.ok (.bl true) h1)(e':k τ h1=.ok d h2):rm f k τ h=.ok d h2:=by unfold rm;rw[e,bw];exact e'
theorem abw(e1:f τ h=.ok d h1)(l:isL d h1=true)(e2:A τ h1=.ok ds h2)(e3:G d ds h2=.ok v h3):a4q (sML G f A) τ h=.nx τ h3:=by
 unfold a4q sML;rw[e1,bw,aJ l,e2,bw,e3];rfl
theorem arg1(e:f τ h=.ok d h1):aj f dh τ h=.ok [d] h1:=by unfold aj dh;rw[e];rfl
theorem qu(e1:f τ h=.ok a h1)(e2:k τ h1=.ok b h2)(e3:G a b h2=.ok v h3):s2 G f k τ h=.ok v h3:=by
 unfold s2;rw[e1,bw,e2,bw,e3]
theorem pq(e:τ[i]? = some (some a))(e3:G a d h=.ok v h3):s2 G (sV i) (sC d) τ h=.ok v h3:=qu (bx e) (aj7 _ _ _) e3
theorem ckk:sC d τ h=.ok d h:=rfl
theorem tvc(e:τ[i]? = some (some a))(e3:G a d h=.ok (.bl t) h3):sT (s2 G (sV i) (sC d)) τ h=.ok t h3:=tof (qu (bx e) (aj7 _ _ _) e3)
theorem t2s(e1:f τ h=.ok a h1)(e2:k τ h1=.ok b h2)(e3:G a b h2=.ok (.bl t) h3):sT (s2 G f k) τ h=.ok t h3:=tof (qu e1 e2 e3)
theorem ifr(e:c τ h=.ok true h1)(e2:f τ h1=.ok d h2):sIf c (jw f) q τ h=.rt d h2:=av (ifT e) (ig e2)
theorem ets{rr:R D}(e:f τ h=.ok d h1)(e2:toR (g (τ.set i (some d)) h1)=rr):toR (il (o8 i f) g τ h)=rr:=by rw[um e,e2]
theorem eti{rr:R D}(e:c τ h=.ok false h1)(e2:toR (g τ h1)=rr):toR (il (sIf c p sNx) g τ h)=rr:=by rw[ifN e,e2]
theorem etr{fa fb:Fl}{rr:R D}(e:fa=fb)(e2:toR fb=rr):toR fa=rr:=by rw[e,e2]
theorem abx(e1:f τ h=.ok a h1)(e3:G a h1=.ok v h2):s1 G f τ h=.ok v h2:=by
 unfold s1;rw[e1,bw,e3]
theorem aen(ht:τ[i]? = some (some a))(e:f τ h=.ok b h1)(e2:G a b h1=.ok d h2):acu i G f τ h=.nx (τ.set i (some d)) h2:=by
 unfold acu;rw[ht];dsimp only;rw[e,a1a,e2];rfl
theorem a9l(e:f τ h=.ok d h1)(e2:G d τ h1=.nx τ1 h2):a9o f G τ h=.nx τ1 h2:=by
 unfold a9o;rw[e,a1a,e2]
theorem aeo{fi:SI}{G:SG}{b:SS}{xs:List D}{ck:Hd->Prop}(e:fi τ h=.ok ⟨xs,ck⟩ h1):il (afd fi G b) g τ h=thn (forL ck G b xs τ h1) g:=by
 rw[ux];unfold afd;rw[e];rfl
theorem aj8(e:f τ h=.ok d h1)(e2:adw d h1=.ok ⟨xs,ck⟩ h1):sIt f τ h=.ok ⟨xs,ck⟩ h1:=by
 unfold sIt;rw[e,bw,e2]
theorem aby(e:h[i]? = some (.lst xs))(z:xs.length<LINE):acx (.ref i) [a] h=.ok .non (h.set i (.lst (xs++[a]))):=by
 unfold acx;simp only[e,aJ z]
theorem ape(hj:xs[j]? = some y):gIx (.rol xs) (.int (j:Nat)) h=.ok y h:=by
 rw[abm];simp only[qy hj]
theorem amz(hj:xs[j]? = some y):gIx (.tup xs) (.int (j:Nat)) h=.ok y h:=by
 rw[a5w];simp only[qy hj]
theorem anz(c:y<x):gGt (.int x) (.int y) h=.ok (.bl true) h:=by unfold gGt;simp only[c,dC]
theorem apf(c:¬ y<x):gGt (.int x) (.int y) h=.ok (.bl false) h:=by unfold gGt;simp only[c,cO]
theorem ao0(c:x<y):gLt (.int x) (.int y) h=.ok (.bl true) h:=by unfold gLt;simp only[c,dC]
theorem aij(c:¬ x<y):gLt (.int x) (.int y) h=.ok (.bl false) h:=by unfold gLt;simp only[c,cO]
theorem a06(c:x=y):hEq (.int x) (.int y) h=.ok (.bl true) h:=by rw[abu,c,bW]
theorem a2w(c:¬ x=y):hEq (.int x) (.int y) h=.ok (.bl false) h:=by rw[abu,bT.mpr c]
theorem aep(c:x=y):hNe (.int x) (.int y) h=.ok (.bl false) h:=by rw[abv,c,bW];rfl
theorem an0(c:¬ x=y):hNe (.int x) (.int y) h=.ok (.bl true) h:=by rw[abv,bT.mpr c];rfl
theorem abz(x y:Int):MI.a6z (.int x) (.int y) h=.ok (.int (x-y)) h:=rfl
theorem du(h:n<=1000000):n<=LINE:=by show n<=16777216;omega
theorem ac0(h:n<=1000000):n<LINE:=by show n<16777216;omega
theorem a5f:MI.xu [a,b] h=.ok (.tup [a,b]) h:=by unfold MI.xu;rw[aJ (du (by simp))]
end
end MI
namespace HND
open L2 MI AT
local macro_rules|`(tactic|walk_at "ev") => `(tactic|simp only[ux,a2r,afu,a6l,afv,o8,acu,a6k,sIf,jw,a4q,aiy,put,alk,a9o,aau,w6,acv,kN,sV,sC,s2,s1,sA,aj,dh,sNx,sT,asB,a3e,n6,abp,abq,abr,abt,aaq,sOr,a70,rm,aqa,a99,sCh,afa,bw,a1a,MI.a5w,MI.abm,MI.afz,aj3,uv,gLt,gGt,gGe,gLe,abu,abv,amt,amu,ag1,a6p,amv,a8k,ar5,ar6,ar7,ar8,m5,MI.a6z,acw,afh,ag0,AT.am2,AT.p18,a7o,abn,abo,aqd,a1d,aqc,a7d,al2,MI.xu,MI.a9a,sML,isL,acx,oN,oS,a3x,a0i,sIt,adw,sRg,aS,af,aK,a9,cD,eD,ef,List.set_cons_succ,cM,dG,AT.alu,AT.alv,AT.alw,AT.alx,AT.aly,AT.alz,AT.am0,AT.am1,AT.x10,AT.x20,AT.x21,AT.x30,AT.x31,AT.x32,AT.x40,AT.x41,AT.x42,AT.x43,AT.x50,AT.x51,AT.x52,AT.x53,AT.x54,AT.x60,AT.x61,AT.x62,AT.x63,AT.x64,AT.x65,AT.x70,AT.x71,AT.x72,AT.x73,AT.x74,AT.x75,AT.x76,dC,cO,reduceIte,eW,Bool.and_self,eE,eR,and_self,true_and,and_true,bW,Nat.reduceAdd,Nat.reduceLeDiff,Nat.reduceLT,Nat.reducePow,Int.reduceLT,Int.reduceLE,Int.reduceNeg,Int.reduceEq,Int.reduceBEq,bZ,Bool.true_eq_false,ite_true,ite_false,dA,dZ, *])
structure Hand (o:O) (N:Nat):Prop where
 ex:∃(cells:List Int) (a l s c:Int),o=.lst [.rol (cells.map D.int),.int a,.int l,.int s,.int c]/\0<=a/\0<=l/\0<=s/\s<2147483647/\0<=c/\c<=N/\cells.length<=63
theorem Hand.clo(P:Hand o N):v6 0 o:=by
 obtain⟨cells,a,l,s,c,rfl,_⟩:=P.ex;exact bc (a7k (km λx _=>dj x)) (bc (dj _) (bc (dj _) (bc (dj _) (bc (dj _) gw))))
theorem Hand.up(P:Hand o N)(h:N<=M):Hand o M:=by
 obtain⟨cells,a,l,s,c,e,h1,h2,h3,h4,h5,h6,h7⟩:=P.ex;exact⟨cells,a,l,s,c,e,h1,h2,h3,h4,h5,by omega,h7⟩
noncomputable def au:SF:=jr a1c 4
theorem ac1(P:Hand o N)(hN:N<=1000000000)(m0:0<m)(m1:m<1073741824):∃r o',au [.ref 0,.int m] [o]=.ok (.int r) [o']/\0<=r/\r<m/\Hand o' (N+1):=by
 obtain⟨cells,a,l,s,c,rfl,a0,l0,s0,s1,c0,c1,c63⟩:=P.ex;unfold au;rw[fu];unfold a1c a0e;simp only[aT,cW,af,aK,Nat.reduceSub,Nat.reduceAdd,List.replicate,dG,cM]
 by_cases h2:m<2
 ·refine⟨0,_,?_,by omega,by omega,⟨cells,a,l,s,c,rfl,a0,l0,s0,s1,c0,by omega,c63⟩⟩
  walk_at "ev"
 ·have k2:decide (m<2)=false:=aP h2;have k3:(0<m/\m<1073741824)=True:=by simp[m0,m1]
  have k3':(0<m)=True:=by simp[m0]
  have draw:∀s':Int,0<=s'->s'<2147483647->∃r,0<=r/\r<m/\(s'+7368787*(c+1))^(5:Int).toNat%2147483647 / 1009%m=r/\CMul 7368787 (c+1)/\∀h,aav (.int (s'+7368787*(c+1))) (.int 5) h=.ok (.int ((s'+7368787*(c+1))^(5:Int).toNat)) h:=λs' h0 h1 =>
   ⟨_,dW _ (by omega),de _ m0,rfl,.inl ⟨by decide,by decide⟩,λh=>ap7 ⟨by decide,by decide,by omega⟩⟩
  by_cases hA:l=0/\a<(cells.length:Int)
  ·obtain⟨rfl,ha⟩:=hA;obtain⟨j,rfl⟩:=bg a0;have hj:j<cells.length:=by omega
   have hat:atI (cells.map D.int) (j:Int)=some (.int cells[j]):=qy (by simp[hj])
   have ka:decide ((j:Int)<(cells.length:Int))=true:=aQ ha;have cm:CMul s 48271:=.inr ⟨by decide,by decide⟩
   have s2:0<=(s*48271+cells[j])%2147483647:=dW _ (by decide)
   have s3:(s*48271+cells[j])%2147483647<2147483647:=de _ (by decide)
   generalize hs':(s*48271+cells[j])%2147483647=s' at s2 s3
   generalize hx:cells[j]=x at *
   by_cases hB:(1000000000000000000:Int)<=afw x
   ·have kb:decide ((1000000000000000000:Int)<=afw x)=true:=aQ hB;have pos:0<afw x:=by omega
    have kc:decide (0<afw x)=true:=aQ pos;refine⟨afw x%m,_,?_,dW _ (by omega),de _ m0,⟨cells,(j:Int)+1,afw x / m,s',c,rfl,by omega,Int.ediv_nonneg (by omega) (by omega),s2,s3,c0,by omega,c63⟩⟩
    walk_at "ev"
   ·have kb:decide ((1000000000000000000:Int)<=afw x)=false:=aP hB;obtain⟨r,r0,r1,er,d1,d2⟩:=draw s' s2 s3;refine⟨r,_,?_,r0,r1,⟨cells,(j:Int)+1,0,s',c+1,rfl,by omega,by omega,s2,s3,by omega,by omega,c63⟩⟩
    walk_at "ev"
  ·by_cases hC:0<l
   ·have kc:decide (0<l)=true:=aQ hC;have kd:(l == 0)=false:=by simp;omega
    refine⟨l%m,_,?_,dW _ (by omega),de _ m0,⟨cells,a,l / m,s,c,rfl,a0,Int.ediv_nonneg (by omega) (by omega),s0,s1,c0,by omega,c63⟩⟩
    walk_at "ev"
   ·have:l=0:=by omega
    subst this;have ka:decide (a<(cells.length:Int))=false:=aP λz=>hA ⟨rfl,z⟩;obtain⟨r,r0,r1,er,d1,d2⟩:=draw s s0 s1;refine⟨r,_,?_,r0,r1,⟨cells,a,0,s,c+1,rfl,a0,by omega,s0,s1,by omega,by omega,c63⟩⟩
    walk_at "ev"
theorem v9(P:Hand o N)(hN:N<=1000000000)(m0:0<m)(m1:m<1073741824):∃r o',Dr au 2 [.int m] o (.int r) o'/\0<=r/\r<m/\Hand o' (N+1):=by
 obtain⟨r,o',e,r0,r1,P'⟩:=ac1 P hN m0 m1;refine⟨r,o',Dr.of rfl (by simp[dj]) P.clo e (j5 (dj _) ?_) (dj _) P'.clo,r0,r1,P'⟩
 intro u hu
 simp at hu
 subst hu;exact a05 (by omega) P'.clo
end HND
namespace HND
open L2 MI AT
noncomputable def n8:SF:=jr a1b 1
theorem aik(ns:List Int)(h:Hd):∃o,Hand o 0/\jd true 1 n8 [.scr (ns.map D.int)] h=.ok (.ref h.length) (h++[o]):=by
 have cl:clos 0 ((ns.take 63).map D.int):=km λx _=>dj x;have z1:sZ (a3x (sV 0) oN (oS (sI 63))) [some (.scr (ns.map D.int))] []=.ok (.rol ((ns.take 63).map D.int)) []:=by
  refine a7m (by
   show gSl (.scr (ns.map D.int)) none (some ((63:Nat):Int)) []=_;unfold gSl;simp only[aan,List.map_take]) cl (by simp)
 have z2:sZ (sA a0g (aj (sZ (a3x (sV 0) oN (oS (sI 63)))) dh)) [some (.scr (ns.map D.int))] []=.ok (.rol ((ns.take 63).map D.int)) []:=by
  refine a7m (by
   simp only[sA,aj,dh,z1,bw]
   rfl) cl (by simp)
 have e:n8 [.scr (ns.map D.int)] []=.ok (.ref 0) [.lst [.rol ((ns.take 63).map D.int),.int 0,.int 0,.int 7,.int 0]]:=by
  unfold n8;rw[fu];unfold a1b a0e;simp only[aT,cW,af,aK,Nat.reduceSub,Nat.reduceAdd,List.replicate,bp];simp only[jw,sA,aj,dh,sC,bw,a1a]at z2 ⊢;simp only[z2,bw];rfl
 have P:Hand (.lst [.rol ((ns.take 63).map D.int),.int 0,.int 0,.int 7,.int 0]) 0:=⟨ns.take 63,0,0,7,0,rfl,by decide,by decide,by decide,by decide,by decide,by decide,by simp;omega⟩
 exact⟨_,P,aln rfl (by simpa[clo] using (km λx _=>dj x:clos 0 (ns.map D.int))) e rfl P.clo h⟩
def ao1:Str := " !\"#$&'()*+,-./0123456789:;<=>?@ABCDEFGHIJKLMNOPQRSTUVWXYZ[\\]^_`"
def ao2:Str := "abcdefghijklmnopqrstuvwxyz{|}~\n"
def sig:List Nat:=ao1.cps.toList++ao2.cps.toList
theorem ail:sig.length=95:=by decide +kernel
noncomputable def jt:SF:=jr uh 1
theorem lits{h:Hd}:gk (.str ao1) (.str ao2) h=.ok (.str (S sig)) h:=by
 rw[<-abl ao1,<-abl ao2,qg (by decide +kernel)]
 rfl
theorem a1w:Pu jt 0 [] (.str (S sig)):=by
 refine Pu.of rfl (by simp) (r:=.ok (.str (S sig)) []) ?_ (by rw[j5 (bu _) (by simp)];rfl) (bu _)
 unfold jt;rw[fu];unfold uh;have e:=@lits [];unfold ao1 ao2 at e;show toR (il (o8 0 _) _ [none] [])=_;simp only[ux,o8,sC,a1a,a2r,jw,s2,sV,ef,cD,bw,e,a6l]
end HND
namespace HND
open L2 MI AT
abbrev iz(i:Nat):D:=.int (i:Nat)
end HND
namespace PAP
open L2 MI AT HND
def Pln:D->Prop
 |.non=>True|.bl _=>True|.int _=>True|.str x=>x.cps.toList.length<=1000|.tup xs=>clos 0 xs|.rol xs=>clos 0 xs|.rod _ xs=>clos 0 xs|_=>False
theorem Pln.clo(p:Pln d):clo 0 d:=by
 cases d<;>first|(simp only[Pln]at p;done)|(simp only[Pln]at p;simpa[MI.clo] using p)|simp[MI.clo]
def isTup:D->Bool|.tup _=>true|_=>false
theorem apg(p:Pln d):j9 [d,.ty "tuple"] h=.ok (.bl (isTup d)) h:=by
 cases d<;>first|(simp only[Pln]at p;done)|simp[j9,a6f,tyD,a4t,isTup]
theorem at7(l:List Nat)(h:Hd):adw (.str (S l)) h=.ok ⟨l.map λc=>.str (S [c]),λ_=>True⟩ h:=by
 show R.ok (⟨qx (S l),λ_=>True⟩:Itm) _=_;unfold qx;rw[zr]
theorem ac2(e:f τ h=.ok (.bl false) h1):rm f k τ h=.ok (.bl false) h1:=by unfold rm;rw[e,bw]
theorem ag3(bs:List Bool)(h:Hd):afn [.rol (bs.map D.bl)] h=.ok (.bl (bs.all id)) h:=by
 unfold afn;simp only[ae2]
theorem ac3:∀c∈sig,c<127:=by decide +kernel
theorem an1{xs ys:List D}(z:xs.length+ys.length<=1000000):gk (.tup xs) (.tup ys) h=.ok (.tup (xs++ys)) h:=by
 cases xs with
 |nil=>rfl
 |cons x xs =>
  show(if (x::xs).length+ys.length<=LINE then R.ok (D.tup (x::xs++ys)) h else .no)=_
  rw[aJ (du z)]
theorem aim:MI.xu [] h=.ok (.tup []) h:=by unfold MI.xu;rw[aJ (du (by simp))]
theorem a3z(e:f τ h=.ok d h1)(e2:k τ h1=.ok ds h2):aj f k τ h=.ok (d::ds) h2:=by
 unfold aj;rw[e,bw,e2,bw]
theorem aof(e:k τ h=.ok ds h1)(e2:G ds h1=.ok v h2):sA G k τ h=.ok v h2:=by
 unfold sA;rw[e,bw,e2]
theorem a1i:sZ ahy τ []=.ok (.rod [] []) []:=by
 unfold sZ;show a5j 0 (.ok (.ref 0) [.dK []])=_;refine a2s (h1:=[.dK []]) ?_ (by simp)
 unfold FU a1l;rw[aY (by simp only[MI.clo];omega)]
 rfl
theorem a6q{h h':Hd}(hl:h'.length=h.length)(e:f τ h=.ok (.ref h'.length) (h'++[.lst xs]))(cx:clos h.length xs)(c:∀o∈h',v6 h.length o):sZ f τ h=.ok (.rol xs) h':=by
 unfold sZ;rw[e,a8g (by omega) (by simp) cx (by rw[<-hl];simpa[hl] using c)]
 rw[<-hl];simp
end PAP
namespace EVX
open L2 MI
section
variable{i:Nat}{cs:Str->Bool}{fb fs p g:SS}{τ τ1 τ2:Sd}{h h1 h2:Hd}{c:Str}{f:SE}{ka:SA}{ds:List D}{F:SF}{n:Nat}
theorem ag4(e:f τ h=.ok (.bl b) h1):a99 f τ h=.ok (.bl (!b)) h1:=by unfold a99;rw[e];rfl
theorem a1i:sZ ahy τ []=.ok (.rod [] []) []:=by
 unfold sZ;show a5j 0 (.ok (.ref 0) [.dK []])=_;refine a2s (h1:=[.dK []]) ?_ (by simp)
 unfold FU a1l;rw[aY (by simp only[MI.clo];omega)]
 rfl
theorem ain{G:List D->Hd->R D}{f1 f2 f3 f4:SE}{h3 h4 h5:Hd}{a b c d v:D}(e1:f1 τ h=.ok a h1)(e2:f2 τ h1=.ok b h2)(e3:f3 τ h2=.ok c h3)(e4:f4 τ h3=.ok d h4)(e5:G [a,b,c,d] h4=.ok v h5):sA G (aj f1 (aj f2 (aj f3 (aj f4 dh)))) τ h=.ok v h5:=by
 have:aj f1 (aj f2 (aj f3 (aj f4 dh))) τ h=.ok [a,b,c,d] h4:=by unfold aj;rw[e1,bw,e2,bw,e3,bw,e4];rfl
 unfold sA;rw[this,bw,e5]
end
end EVX
namespace K20
open L2 MI AT HND EVX
open PAP hiding a3z aim a1i a6q aof
def isInt:D->Bool|.int _=>true|_=>false
def ag5:D->Bool|.bl _=>true|_=>false
def isStr:D->Bool|.str _=>true|_=>false
section
variable{d:D}{h:Hd}
theorem aph(p:Pln d):j9 [d,.ty "int"] h=.ok (.bl (isInt d || ag5 d)) h:=by
 cases d<;>first|(simp only[Pln]at p;done)|simp[j9,a6f,tyD,a4t,isInt,ag5]
theorem api(p:Pln d):j9 [d,.ty "bool"] h=.ok (.bl (ag5 d)) h:=by
 cases d<;>first|(simp only[Pln]at p;done)|simp[j9,a6f,tyD,a4t,ag5]
theorem an2(p:Pln d):j9 [d,.ty "str"] h=.ok (.bl (isStr d)) h:=by
 cases d<;>first|(simp only[Pln]at p;done)|simp[j9,a6f,tyD,a4t,isStr]
end
theorem aio{f g k:SE}{τ:Sd}{h:Hd}{a x b:Int}(e1:f τ h=.ok (.int a) h)(e2:g τ h=.ok (.int x) h)(e3:k τ h=.ok (.int b) h):sCh gLe gLe f g k τ h=.ok (.bl (decide (a<=x/\x<=b))) h:=by
 unfold sCh;rw[e1,bw,e2,bw,show gLe (.int a) (.int x) h=.ok (.bl (decide (a<=x))) h from rfl,bw]
 by_cases c:a<=x
 ·simp only[c,dC,true_and];rw[e3,bw];rfl
 ·simp only[c,cO,false_and]
def ao3(lo hi:Int):D->Bool|.int i=>decide (lo<=i/\i<=hi)|_=>false
theorem apj{lo hi:Int}{d:D}(h:isInt d=false):ao3 lo hi d=false:=by cases d<;>first|rfl|simp[isInt]at h
theorem ar1{a:D}(ha:MI.clo 0 a):∀x∈[a],MI.clo 0 x:=by intro x hx;rw[aL]at hx;subst hx;exact ha
theorem ar2{a b:D}(ha:MI.clo 0 a)(hb:MI.clo 0 b):∀x∈[a,b],MI.clo 0 x:=by
 intro x hx
 simp only[aO,aU,bY]at hx
 rcases hx with rfl|rfl
 ·exact ha
 ·exact hb
theorem ar3{a b c:D}(ha:MI.clo 0 a)(hb:MI.clo 0 b)(hc:MI.clo 0 c):∀x∈[a,b,c],MI.clo 0 x:=by
 intro x hx
 rcases aO.mp hx with rfl|hx
 ·exact ha
 ·exact ar2 hb hc x hx
theorem ar4{a b c e:D}(ha:MI.clo 0 a)(hb:MI.clo 0 b)(hc:MI.clo 0 c)(he:MI.clo 0 e):∀x∈[a,b,c,e],MI.clo 0 x:=by
 intro x hx
 rcases aO.mp hx with rfl|hx
 ·exact ha
 ·exact ar3 hb hc he x hx
theorem a3k{F:SF}{n:Nat}{ds:List D}{b:Bool}{h':Hd}(hn:ds.length=n)(ca:∀x∈ds,MI.clo 0 x)(e:F ds []=.ok (.bl b) h'):Pu F n ds (.bl b):=Pu.of hn ca e (j5 (a3y _) (by simp)) (a3y _)
noncomputable def my:SF:=jr wu 1
theorem aeq{d:D}(p:Pln d):Pu my 1 [d] (.bl (isInt d)):=by
 refine a3k rfl (ar1 p.clo) (h':=[]) ?_;unfold my;rw[fu];show toR (wu [some d] [])=_;unfold wu;have a1:sA j9 (aj (sV 0) (aj (sC (.ty "int")) dh)) [some d] []=.ok (.bl (isInt d || ag5 d)) []:=qi (bx rfl) ckk (aph p)
 have a2:sA j9 (aj (sV 0) (aj (sC (.ty "bool")) dh)) [some d] []=.ok (.bl (ag5 d)) []:=qi (bx rfl) ckk (api p)
 cases hi:isInt d with
 |true =>
  rw[hi,Bool.true_or]at a1;have:ag5 d=false:=by cases d<;>first|rfl|simp[isInt]at hi
  rw[this]at a2;exact ah toR (ig (xg a1 (EVX.ag4 a2)))
 |false =>
  rw[hi,Bool.false_or]at a1
  cases hb:ag5 d with
  |true=>rw[hb]at a1 a2;exact ah toR (ig (xg a1 (EVX.ag4 a2)))
  |false=>rw[hb]at a1;exact ah toR (ig (ac2 a1))
noncomputable def gj:SF:=jr (m8 my) 3
theorem a4a{d:D}(p:Pln d)(lo hi:Int):Pu gj 3 [d,.int lo,.int hi] (.bl (ao3 lo hi d)):=by
 refine a3k rfl (ar3 p.clo (dj _) (dj _)) (h':=[]) ?_;unfold gj;rw[fu];show toR (m8 my [some d,some (.int lo),some (.int hi)] [])=_;unfold m8;have c:=aeq p []
 cases hi':isInt d with
 |true =>
  obtain⟨i,rfl⟩:∃i,d=.int i:=by cases d<;>first|exact⟨_,rfl⟩|simp[isInt]at hi'
  exact ah toR (ig (xg (uq (bx rfl) c) (aio (bx rfl) (bx rfl) (bx rfl))))
 |false =>
  rw[hi']at c;rw[apj hi'];exact ah toR (ig (ac2 (uq (bx rfl) c)))
def apk(lo hi:Int):D->Bool|.tup xs=>decide (lo<=(xs.length:Int)/\(xs.length:Int)<=hi)|_=>false
theorem len_T(xs:List D)(h:Hd):wg [.tup xs] h=.ok (.int (xs.length:Nat)) h:=a7o
noncomputable def p6:SF:=jr a1u 3
theorem aer{d:D}(p:Pln d)(lo hi:Int):Pu p6 3 [d,.int lo,.int hi] (.bl (apk lo hi d)):=by
 refine a3k rfl (ar3 p.clo (dj _) (dj _)) (h':=[]) ?_;unfold p6;rw[fu];show toR (a1u [some d,some (.int lo),some (.int hi)] [])=_;unfold a1u;have a1:sA j9 (aj (sV 0) (aj (sC (.ty "tuple")) dh)) [some d,some (.int lo),some (.int hi)] []=.ok (.bl (isTup d)) []:=qi (bx rfl) ckk (apg p)
 cases ht:isTup d with
 |true =>
  obtain⟨xs,rfl⟩:∃xs,d=.tup xs:=by cases d<;>first|exact⟨_,rfl⟩|simp[isTup]at ht
  exact ah toR (ig (xg a1 (aio (bx rfl) (uq (bx rfl) (len_T xs _)) (bx rfl))))
 |false =>
  rw[ht]at a1;have:apk lo hi d=false:=by cases d<;>first|rfl|simp[isTup]at ht
  rw[this];exact ah toR (ig (ac2 a1))
theorem an3{fi:SI}{ce:SE}{ix:List Nat}{τ:Sd}{xs:List D}{P:D->Bool}(e:fi τ []=.ok ⟨xs,λ_=>True⟩ [])(ln:xs.length<=1000000)(st:∀x∈xs,a3h t1 ce (frs' ix τ) x []=.ok (.bl (P x)) []) :
  sA afn (aj (sZ (vg fi t1 ce ix)) dh) τ []=.ok (.bl (xs.all P)) []:=by
 have e':fi τ []=.ok ⟨xs.map (λx=>x),λ_=>True⟩ []:=by rw[List.map_id'];exact e
 have cz:sZ (vg fi t1 ce ix) τ []=.ok (.rol ((xs.map P).map D.bl)) []:=by
  rw[eg];exact a7m (yq (λx=>x) (λx=>.bl (P x)) xs e' (du ln) st) (km λc _=>a3y _) (by simp)
 refine uq cz ?_;rw[ag3,dE];rfl
def an4(l:List Nat):Bool:=decide (1<=l.length/\l.length<=6) && (decide l.Nodup && l.all (λc=>decide (c∈sig)))
def an5:D->Bool|.str x=>an4 x.cps.toList|_=>false
theorem ag6(l:List Nat):an5 (.str (S l))=an4 l:=by simp only[an5,zr]
theorem an6:∀c:Nat,c<127->(c∈sig↔c=10\/(32<=c/\c<=126/\c≠37)):=by decide +kernel
theorem a2x(c:Nat):c∈sig↔c=10\/(32<=c/\c<=126/\c≠37):=by
 by_cases h:c<127
 ·exact an6 c h
 ·constructor
  ·intro z;exact absurd (ac3 c z) h
  ·intro z;omega
theorem an7(a b:Nat)(h:Hd):gLe (.str (S [a])) (.str (S [b])) h=.ok (.bl (decide (a<=b))) h:=by
 unfold gLe;have:(S [b]).cps.toList<(S [a]).cps.toList↔b<a:=by
  rw[zr,zr,List.cons_lt_cons_iff];simp
 by_cases c:a<=b
 ·rw[aQ c];have n:¬ (S [b]).cps.toList<(S [a]).cps.toList:=λz=>by have:=this.mp z;omega
  simp only[n,cO,eR]
 ·rw[aP c];have n:(S [b]).cps.toList<(S [a]).cps.toList:=this.mpr (by omega)
  simp only[n,dC,eE]
theorem ar9{a b:List Nat}{h:Hd}:hEq (.str (S a)) (.str (S b)) h=.ok (.bl (decide (a=b))) h:=by rw[ael,aek]
noncomputable def gf:SF:=jr a0j 1
theorem a6r(c:Nat):Pu gf 1 [.str (S [c])] (.bl (decide (c∈sig))):=by
 refine a3k rfl (ar1 (bu _)) (h':=[]) ?_;unfold gf;rw[fu];show toR (a0j [some (.str (S [c]))] [])=_;unfold a0j;refine eti (orF (aii (vy (qi (bx rfl) ckk (an2 (d:=.str (S [c])) (by simp[Pln]))) (n6 _))) (t2s (uq (bx rfl) (a9k (du (by simp)))) ckk (aep rfl))) ?_
 by_cases h10:c=10
 ·subst h10;exact(ah toR (mq (av (ifT (tvc rfl (ar9 (b:=[10])))) (ig ckk)))).trans (by rw[aQ ((a2x 10).mpr (.inl rfl))];rfl)
 ·refine eti (tvc rfl ((ar9 (b:=[10])).trans (by rw[aP (by simpa using h10)]))) ?_
  have od:al3 [.str (S [c])] []=.ok (.int (c:Nat)) []:=by
   unfold al3;dsimp only;rw[aJ (by rw[zu];rfl)]
   rfl
  have ch:sCh gLe gLe (sC (.str " ")) (sV 0) (sC (.str "~")) [some (.str (S [c]))] []=.ok (.bl (decide (32<=c/\c<=126))) []:=by
   unfold sCh;rw[aj7,bw,bx rfl,bw,show gLe (.str " ") (.str (S [c])) []=.ok (.bl (decide (32<=c))) [] from an7 32 c [],bw]
   by_cases z:32<=c
   ·simp only[z,dC,true_and];rw[aj7,bw];exact an7 c 126 []
   ·simp only[z,cO,false_and]
  by_cases z:32<=c/\c<=126
  ·rw[aQ z]at ch;refine etr (ig (xg ch (qu (uq (bx rfl) od) ckk abv))) ?_;rw[a6l]
   congr 2
   by_cases q:c=37
   ·subst q;rw[aP (λz=>by have:=(a2x 37).mp z;omega)]
    rfl
   ·rw[aQ ((a2x c).mpr (.inr ⟨z.1,z.2,q⟩)),Bool.not_eq_true',bT];omega
  ·rw[aP z]at ch;refine etr (ig (ac2 ch)) ?_;rw[aP (λw=>by have:=(a2x c).mp w;omega)]
   rfl
noncomputable def ik:SF:=jr (lq gf) 1
theorem ac4{d:D}(p:Pln d):Pu ik 1 [d] (.bl (an5 d)):=by
 refine a3k rfl (ar1 p.clo) (h':=[]) ?_;unfold ik;rw[fu];show toR (lq gf [some d] [])=_;unfold lq;have a1:sA j9 (aj (sV 0) (aj (sC (.ty "str")) dh)) [some d] []=.ok (.bl (isStr d)) []:=qi (bx rfl) ckk (an2 p)
 cases hs:isStr d with
 |true =>
  obtain⟨x,rfl⟩:∃x,d=.str x:=by cases d<;>first|exact⟨_,rfl⟩|simp[isStr]at hs
  have xl:x.cps.toList.length<=1000:=p;rw[<-abl x]at a1 ⊢
  generalize x.cps.toList=l at xl a1
  rw[ag6];have ln:∀hh,wg [.str (S l)] hh=.ok (.int (l.length:Nat)) hh:=λhh=>a9k (du (by omega))
  have ch:=aio (f:=sC (.int 1)) (g:=sA wg (aj (sV 0) dh)) (k:=sC (.int 6)) (τ:=[some (.str (S l))]) (h:=[]) ckk (uq (bx rfl) (ln _)) ckk
  by_cases hl:1<=l.length/\l.length<=6
  ·rw[aQ (by omega)]at ch
   refine eti (orF (aii (vy a1 (n6 _))) (aii (tof ch))) ?_;have ls:a04 (.str (S l)) []=.ok (.int ((a1k l).length:Nat)) []:=by
    unfold a04;dsimp only;rw[aJ (by rw[zu];omega)]
   have al:=an3 (fi:=sIt (sV 0)) (ce:=t7 gf) (ix:=[]) (τ:=[some (.str (S l))]) (xs:=l.map λc=>.str (S [c])) (P:=λd=>match d with|.str x=>x.cps.toList.all (λc=>decide (c∈sig))|_=>false) (aj8 (bx rfl) (at7 l _)) (by rw[aS];omega) λx hx=>by
    obtain⟨c,_,rfl⟩:=e8.mp hx;rw[a2v];refine(uq (bx rfl) (a6r c _)).trans ?_;simp only[zr,cR,List.all_nil,Bool.and_true]
   have ea:(l.map λc=>D.str (S [c])).all (λd=>match d with|.str x=>x.cps.toList.all (λc=>decide (c∈sig))|_=>false)=l.all (λc=>decide (c∈sig)):=by
    rw[dE]
    congr 1
    funext c
    simp only[Function.comp,zr,cR,List.all_nil,Bool.and_true]
   rw[ea]at al;have eq:hEq (.int ((a1k l).length:Nat)) (.int (l.length:Nat)) []=.ok (.bl (decide l.Nodup)) []:=by
    rw[abu]
    by_cases nd:l.Nodup
    ·rw[aQ nd,(a6a l).mpr nd,bW]
    ·rw[aP nd,bT.mpr (λz=>nd ((a6a l).mp (by omega)))]
   have a2:s2 hEq (s1 a04 (sV 0)) (sA wg (aj (sV 0) dh)) [some (.str (S l))] []=.ok (.bl (decide l.Nodup)) []:=qu (abx (bx rfl) ls) (uq (bx rfl) (ln _)) eq;unfold an4;rw[aQ hl,eW]
   by_cases nd:l.Nodup
   ·rw[aQ nd]at a2 ⊢;exact ah toR (ig (xg a2 al))
   ·rw[aP nd]at a2 ⊢;exact ah toR (ig (ac2 a2))
  ·rw[aP (by omega)]at ch
   unfold an4;rw[aP hl,Bool.false_and];exact ah toR (mq (av (ifT (orF (aii (vy a1 (n6 _))) (anx (tof ch)))) (ig ckk)))
 |false =>
  rw[hs]at a1;have:an5 d=false:=by cases d<;>first|rfl|simp[isStr]at hs
  rw[this];exact ah toR (mq (av (ifT (orT (anx (vy a1 (n6 _))))) (ig ckk)))
theorem ara(neg:Bool)(c:Nat)(t:List Nat)(h:Hd):gIn neg (.str (S [c])) (.str (S t)) h=.ok (.bl (if neg then !decide (c∈t) else decide (c∈t))) h:=by
 cases neg
 ·show R.ok (D.bl (decide (c∈(S t).cps.toList))) h=_;rw[zr];rfl
 ·show R.ok (D.bl (!decide (c∈(S t).cps.toList))) h=_;rw[zr];rfl
end K20
namespace K76
open L2 MI AT HND
theorem ag7:∀ls:List (List Nat),Txt.join (S []) (ls.map S)=S ls.flatten:=by
 have e:∀zs:List Str,Txt.join (S []) zs=Str.join (S []) zs:=dX (S []);have st:∀(x y:Str) (r:List Str),Str.join (S []) (x::y::r)=x++S []++Str.join (S []) (y::r):=λ_ _ _=>rfl
 intro ls
 rw[e]
 induction ls with
 |nil=>rfl
 |cons l ls ih =>
  cases ls with
  |nil=>rw[aT,cW,b9,List.flatten_nil,bp];rfl
  |cons m ls =>
   rw[aT,aT,st,<-aT,ih,a9j,a9j,bp,b9 (l:=l)]
theorem a8l:∀ls:List (List Nat),a7f (ls.map λl=>D.str (S l))=some (ls.map S)
 |[]=>rfl
 |l::ls=>by
  show(a7f (ls.map λl=>D.str (S l))).map _=_;rw[a8l ls];rfl
theorem apl(ls:List (List Nat)):((ls.map S).map (·.length)).sum=ls.flatten.length:=by
 induction ls with
 |nil=>rfl
 |cons l ls ih=>rw[aT,aT,List.sum_cons,ih,b9,a9,zu]
theorem ag8{ls:List (List Nat)}(z:ls.flatten.length<=1000000):a03 (.str (S [])) [.rol (ls.map λl=>.str (S l))] h=.ok (.str (S ls.flatten)) h:=by
 unfold a03;simp only[a8l,apl,zu,aK,Nat.mul_zero,Nat.add_zero,ag7];rw[aJ (by omega)]
theorem ag9{ls:List (List Nat)}(e:h[i]? = some (.lst (ls.map λl=>.str (S l))))(z:ls.flatten.length<=1000000):a03 (.str (S [])) [.ref i] h=.ok (.str (S ls.flatten)) h:=by
 unfold a03;simp only[e,a8l,apl,zu,aK,Nat.mul_zero,Nat.add_zero,ag7];rw[aJ (by omega)]
theorem acz(e1:f τ h=.ok (.str z) h1)(e2:k τ h1=.ok ds h2)(e3:g (.str z) ds h2=.ok v h3):sMS g f k τ h=.ok v h3:=by
 unfold sMS;rw[e1,bw];dsimp only;rw[e2,bw,e3]
def enc(c:Nat):List Nat:=if c=10 then [92,110] else if c=62\/c=92 then [92,c] else [c]
def quo(t:List Nat):List Nat:=60::((t.map enc).flatten++[62])
abbrev Good(c:Nat):Prop:=c=10\/(32<=c/\c<=126/\c≠37)
theorem ac6(c:Nat):(enc c).length<=2:=by
 unfold enc
 split
 ·simp
 ·split<;>simp
theorem a2y(t:List Nat):((t.map enc).flatten).length<=2*t.length:=by
 induction t with
 |nil=>simp
 |cons c t ih =>
  have:=ac6 c
  simp only[aT,b9,a9,af];omega
theorem a2z(t:List Nat):(quo t).length<=2*t.length+2:=by
 have:=a2y t
 simp only[quo,af,a9,aK];omega
theorem lt4:("\\n" : Str)=S [92,110]:=rfl
theorem eqS:hEq (.str (S a)) (.str (S b)) h=.ok (.bl (decide (a=b))) h:=by rw[ael,aek]
theorem neS:hNe (.str (S a)) (.str (S b)) h=.ok (.bl (!decide (a=b))) h:=by rw[apa,aek]
theorem a1o(c:a=b):hEq (.str (S a)) (.str (S b)) h=.ok (.bl true) h:=by rw[eqS,aQ c]
theorem xj(c:a≠b):hEq (.str (S a)) (.str (S b)) h=.ok (.bl false) h:=by rw[eqS,aP c]
theorem a3l(c:a=b):hNe (.str (S a)) (.str (S b)) h=.ok (.bl false) h:=by rw[neS,aQ c];rfl
theorem a9m(c:a≠b):hNe (.str (S a)) (.str (S b)) h=.ok (.bl true) h:=by rw[neS,aP c];rfl
noncomputable def iy:SF:=jr wk 3
theorem a6s{t:List Nat}(ht:t.length<=300):Pu iy 1 [.str (S t)] (.str (S (quo t))):=by
 refine Pu.of rfl (by intro x hx;rw[aL]at hx;subst hx;exact bu _) (r:=.ok (.str (S (quo t))) []) ?_ (j5 (bu _) (by simp)) (bu _)
 unfold iy;rw[fu];show toR (wk [some (.str (S t)),none,none] [])=_;unfold wk;refine etr (um ckk) ?_;have i3:adw (.str (S t)) []=.ok ⟨t.map λc=>.str (S [c]),λ_=>True⟩ []:=by
  show R.ok (⟨qx (S t),λ_=>True⟩:Itm) _=_;unfold qx;rw[zr]
 refine etr (aeo (aj8 (bx rfl) i3)) ?_;have lp:=a1s (g:=kN 2) (b:=v7) (λc:Nat=>D.str (S [c]))
  (λpre τ hh=>∃t2:Option D,τ=[some (.str (S t)),some (.str (S (pre.map enc).flatten)),t2]/\hh=[])
  t [some (.str (S t)),some (.str (S [])),none] [] ?_ ⟨none,rfl,rfl⟩
 ·obtain⟨τ',h',e,t2,rfl,rfl⟩:=lp;refine av (ah (λz=>toR (thn z _)) e) ?_;rw[a2r];have l:=a2y t;refine etr (ig (qu (qu ckk (bx rfl) (qg (a:=[60]) (du (by simp only[a9,af,aK];omega)))) ckk (qg (b:=[62]) (du (by simp only[a9,af,aK];omega))))) ?_
  rfl
 ·rintro pre c post τ hh all ⟨t2,rfl,rfl⟩
  have l:=a2y pre;have hl:pre.length<=t.length:=by rw[all];simp
  refine⟨_,_,rfl,[some (.str (S t)),some (.str (S ((pre++[c]).map enc).flatten)),some (.str (S [c]))],[],?_,_,rfl,rfl⟩;have e:((pre++[c]).map enc).flatten=(pre.map enc).flatten++enc c:=by simp
  rw[e];unfold v7
  by_cases h1:c=10
  ·subst h1;refine av (ifT (tvc rfl (a1o (b:=[10]) rfl))) ?_;exact aih (pq rfl (qg (b:=[92,110]) (du (by simp only[a9,af,aK];omega))))
  ·refine av (ifF (tvc rfl (xj (b:=[10]) (by simpa using h1)))) ?_
   by_cases h2:c=62\/c=92
   ·have ee:enc c=[92]++[c]:=by unfold enc;rw[aY h1,aJ h2];rfl
    rw[ee,<-cT];refine av (ifT (h1:=[]) ?_) ?_
    ·rcases h2 with rfl|rfl
     ·exact orT (tvc rfl (a1o (b:=[62]) rfl))
     ·exact orF (tvc rfl (xj (b:=[62]) (by decide))) (tvc rfl (a1o (b:=[92]) rfl))
    ·exact aih (qu (pq rfl (qg (b:=[92]) (du (by simp only[a9,af,aK];omega)))) (bx rfl) (qg (du (by simp only[a9,af,aK];omega))))
   ·have ee:enc c=[c]:=by unfold enc;rw[aY h1,aY h2]
    rw[ee];refine av (ifF (orF (tvc rfl (xj (b:=[62]) (by simpa using λz=>h2 (.inl z)))) (tvc rfl (xj (b:=[92]) (by simpa using λz=>h2 (.inr z)))))) ?_
    exact aih (qu (bx rfl) (bx rfl) (qg (du (by simp only[a9,af,aK];omega))))
noncomputable def iw:SF:=jr qt 1
theorem ac8(neg:Bool)(a b:Nat):gIn neg (.str (S [c])) (.tup [.str (S [a]),.str (S [b])]) h=.ok (.bl (if neg then !decide (c=a\/c=b) else decide (c=a\/c=b))) h:=by
 show(if vh (.str (S [c]))=true/\[D.str (S [a]),.str (S [b])].all vh=true then R.ok (D.bl (if neg then !inD (.str (S [c])) [D.str (S [a]),.str (S [b])] else inD (.str (S [c])) [D.str (S [a]),.str (S [b])])) h else .no)=_
 rw[aJ ⟨rfl,rfl⟩];have:inD (.str (S [c])) [D.str (S [a]),.str (S [b])]=decide (c=a\/c=b):=by
  unfold inD;simp only[dI,List.any_nil,Bool.or_false,eqF,aek,List.cons.injEq,and_true]
  by_cases h1:c=a
  ·subst h1;simp
  ·by_cases h2:c=b
   ·subst h2;simp
   ·have e1:¬ a=c:=λz=>h1 z.symm;have e2:¬ b=c:=λz=>h2 z.symm;simp[h1,h2,e1,e2]
 rw[this]
theorem zg:Pu iw 1 [.str (S [c])] (.str (S (enc c))):=by
 refine Pu.of rfl (by intro x hx;rw[aL]at hx;subst hx;exact bu _) (r:=.ok (.str (S (enc c))) []) ?_ (j5 (bu _) (by simp)) (bu _)
 unfold iw;rw[fu];show toR (qt [some (.str (S [c]))] [])=_;unfold qt
 by_cases h1:c=10
 ·subst h1;exact ah toR (mq (av (ifT (tvc rfl (a1o (b:=[10]) rfl))) (ig ckk)))
 ·refine eti (tvc rfl (xj (b:=[10]) (by simpa using h1))) ?_
  have q:sT (s2 (gIn false) (sV 0) (sA xu (aj (sC (.str ">")) (aj (sC (.str "\\")) dh)))) [some (.str (S [c]))] []=.ok (decide (c=62\/c=92)) []:=t2s (bx rfl) (qi ckk ckk a5f) (ac8 false 62 92);refine av (ah toR (ig (d:=.str (S (enc c))) (h1:=[]) ?_)) rfl;unfold afa;rw[q,bw]
  by_cases h2:c=62\/c=92
  ·rw[aQ h2,aJ rfl];have ee:enc c=[92]++[c]:=by unfold enc;rw[aY h1,aJ h2];rfl
   rw[ee];exact qu ckk (bx rfl) (qg (a:=[92]) (du (by simp)))
  ·rw[aP h2,aY (by simp)]
   have ee:enc c=[c]:=by unfold enc;rw[aY h1,aY h2]
   rw[ee];exact bx rfl
noncomputable def m9:SF:=jr (a1t iw) 1
theorem aca{t:List Nat}(ht:t.length<=300):Pu m9 1 [.str (S t)] (.str (S (quo t))):=by
 refine Pu.of rfl (by intro x hx;rw[aL]at hx;subst hx;exact bu _) (r:=.ok (.str (S (quo t))) []) ?_ (j5 (bu _) (by simp)) (bu _)
 have l:=a2y t;unfold m9;rw[fu];show toR (a1t iw [some (.str (S t))] [])=_;unfold a1t;have i3:adw (.str (S t)) []=.ok ⟨t.map λc=>.str (S [c]),λ_=>True⟩ []:=by
  show R.ok (⟨qx (S t),λ_=>True⟩:Itm) _=_;unfold qx;rw[zr]
 have cz:sZ (vg (sIt (sV 0)) t1 (a2t iw) []) [some (.str (S t))] []=.ok (.rol ((t.map enc).map λl=>.str (S l))) []:=by
  rw[eg];refine a7m (yq (λc:Nat=>D.str (S [c])) (λc=>.str (S (enc c))) t (aj8 (bx rfl) i3) (du (by omega)) λc hc=>?_) (km λc _=>bu _) (by simp)
  rw[a2v];exact uq (bx rfl) (zg _)
 refine etr (ig (qu (qu ckk (acz (z:=S []) ckk (arg1 cz) (ag8 (by omega))) (qg (a:=[60]) (du (by simp only[a9,af,aK];omega)))) ckk (qg (b:=[62]) (du (by simp only[a9,af,aK];omega))))) ?_
 rfl
theorem vz{f:SE}{τ:Sd}{h h1:Hd}{i:Int}(e:f τ h=.ok (.int i) h1):oS f τ h=.ok (some i) h1:=by unfold oS;rw[e];rfl
theorem a1p{f:SE}{lo hi:SO}{τ:Sd}{h h1 h2 h3 h4:Hd}{d v:D}{a b:Option Int}(e:f τ h=.ok d h1)(e1:lo τ h1=.ok a h2)(e2:hi τ h2=.ok b h3)(e3:a9f d a b h3=.ok v h4):a3x f lo hi τ h=.ok v h4:=by
 unfold a3x;rw[e,bw,e1,bw,e2,bw,e3]
abbrev E(t:List Nat):List Nat:=(t.map enc).flatten
abbrev one(t:List Nat):List D:=(t.map λc=>[c]).map λl=>.str (S l)
theorem a7p(u:List Nat)(c:Nat):one (u++[c])=one u++[.str (S [c])]:=by simp[one]
theorem a5g(t:List Nat):(t.map λc=>[c]).flatten=t:=by
 induction t with
 |nil=>rfl
 |cons c t ih=>rw[aT,b9,ih];rfl
end K76
namespace K78
open L2 MI AT HND
open K76 (enc quo ac6 a2y a2z neS a9m a3l eqS a1o xj ac8 lt4 acz ag9 ag8 one a7p a5g a1p vz E)
theorem a1x{c:Nat}(g:K76.Good c):c∈sig:=(K20.a2x c).mpr g
theorem an8{c:Nat}(g:K76.Good c):Pu K20.gf 1 [.str (S [c])] (.bl true):=by
 have:=K20.a6r c
 rwa[aQ (a1x g)]at this
def wrt(p:List Nat):Option Nat:=if p=[92,110] then some 10 else if p=[92,62] then some 62 else if p=[92,92] then some 92 else none
theorem kg1:kgt jy (S [92,110])=some (S [10]):=by decide +kernel
theorem kg2:kgt jy (S [92,62])=some (S [62]):=by decide +kernel
theorem kg3:kgt jy (S [92,92])=some (S [92]):=by decide +kernel
theorem kg(p:List Nat):kgt jy (S p)=(wrt p).map λc=>S [c]:=by
 unfold wrt
 by_cases h1:p=[92,110]
 ·subst h1;exact kg1
 by_cases h2:p=[92,62]
 ·subst h2;exact kg2
 by_cases h3:p=[92,92]
 ·subst h3;exact kg3
 rw[aY h1,aY h2,aY h3];unfold kgt jy;rw[lt4,show("\\>" : Str)=S [92,62] from rfl,show("\\\\" : Str)=S [92,92] from rfl,List.find?_eq_none.mpr]
 ·rfl
 ·intro q hq
  simp only[aO,aU,bY]at hq
  rcases hq with rfl|rfl|rfl
  ·simpa using λz=>h1 (aej z).symm
  ·simpa using λz=>h2 (aej z).symm
  ·simpa using λz=>h3 (aej z).symm
theorem apm{c:Nat}{l:List Nat}(h:c≠92):wrt (c::l)=none:=by unfold wrt;simp[h]
noncomputable def nj:SF:=jr (yx K20.gf) 5
abbrev qau(T:List Nat)(a k:Nat)(t4:Option D):Sd:=[some (.str (S T)),some (iz a),some (.ref 0),some (iz k),t4]
section
variable{T:List Nat}{a k:Nat}{u:List Nat}{t4:Option D}
theorem p7{r:List Nat}(hl:T.length<=2000)(hr:T.drop k=r)(j:Nat)(h:Hd):a9f (.str (S T)) (some (k:Int)) (some ((k:Int)+(j:Nat))) h=.ok (.str (S (r.take j))) h:=by
 have:=ap9 (h:=h) k (k+j) (du (by omega):T.length<=LINE)
 rw[hr,show k+j-k=j by omega]at this
 exact this
theorem apn{r:List Nat}{x:Nat}(hl:T.length<=2000)(ul:u.length<=2000)(hr:T.drop k=r)(w:wrt (r.take 2)=some x):lr K20.gf (qau T a k t4) [.lst (one u)]=.nx (qau T a (k+2) (some (.str (S (r.take 2))))) [.lst (one (u++[x]))]:=by
 unfold lr;refine av (um (a1p (bx rfl) (vz (bx rfl)) (vz (pq rfl m5)) (p7 hl hr 2 _))) ?_;have kx:=kg (r.take 2);rw[w,Option.map_some]at kx;refine av (ifT (tof (abx (bx rfl) (show aj4 jy (.str (S (r.take 2))) [.lst (one u)]=.ok (.bl true) [.lst (one u)] by unfold aj4;simp only[kx,Option.isSome_some])))) ?_
 refine av (a0p (abw (bx rfl) rfl (arg1 (abx (bx rfl) (show abj jy (.str (S (r.take 2))) [.lst (one u)]=.ok (.str (S [x])) [.lst (one u)] by unfold abj;simp only[kx]))) (aby (xs:=one u) rfl (ac0 (by simp[one];omega))))) ?_
 refine av (aen rfl ckk a1d) ?_;rw[a7p];rfl
theorem at8{p:List Nat}{h:Hd}(w:wrt p=none):aj4 jy (.str (S p)) h=.ok (.bl false) h:=by
 have kx:=kg p;rw[w,Option.map_none]at kx;unfold aj4;simp only[kx,Option.isSome_none]
theorem two:∀(τ:Sd) (h:Hd),sA MI.xu (aj (sC (.str "\n")) (aj (sC (.str "\\")) dh)) τ h=.ok (.tup [.str (S [10]),.str (S [92])]) h:=λτ h=>qi ckk ckk a5f
theorem apo{r:List Nat}{c:Nat}(hl:T.length<=2000)(ul:u.length<=2000)(hr:T.drop k=c::r)(g:K76.Good c)(h1:c≠10)(h2:c≠92):lr K20.gf (qau T a k t4) [.lst (one u)]=.nx (qau T a (k+1) (some (.str (S ((c::r).take 2))))) [.lst (one (u++[c]))]:=by
 have pl:((c::r).take 2).length<=2:=by rw[bE];omega
 have t1:((c::r).take 2).take 1=[c]:=by simp
 have x0:((c::r).take 2)[0]? = some c:=by simp
 unfold lr;refine av (um (a1p (bx rfl) (vz (bx rfl)) (vz (pq rfl m5)) (p7 hl hr 2 _))) ?_;refine av (ifF (tof (abx (bx rfl) (at8 (by rw[List.take_succ_cons];exact apm h2))))) ?_
 have s1:a9f (.str (S ((c::r).take 2))) none (some 1) [.lst (one u)]=.ok (.str (S [c])) [.lst (one u)]:=by
  have:=ar0 (h:=[.lst (one u)]) 1 (du (by omega):((c::r).take 2).length<=LINE)
  rw[t1]at this;exact this
 have i0:gIx (.str (S ((c::r).take 2))) (.int 0) [.lst (one u)]=.ok (.str (S [c])) [.lst (one u)]:=aj6 (i:=0) (du (by omega)) x0
 have it:gIn true (.str (S [c])) (.tup [.str (S [10]),.str (S [92])]) [.lst (one u)]=.ok (.bl true) [.lst (one u)]:=(ac8 true 10 92).trans (by simp[h1,h2])
 refine av (ifT (amw (vy (uq (a1p (bx rfl) rfl (vz ckk) s1) (an8 g _)) (n6 _)) (t2s (pq rfl i0) (two _ _) it))) ?_;refine av (a0p (abw (bx rfl) rfl (arg1 (pq rfl i0)) (aby (xs:=one u) rfl (ac0 (by simp[one];omega))))) ?_
 refine av (aen rfl ckk a1d) ?_;rw[a7p];rfl
end
theorem a6t{T t post:List Nat}{a:Nat}(hl:T.length<=2000)(g:∀c∈t,K76.Good c)(dr:T.drop a=quo t++post):∃h',nj [.str (S T),iz a] []=.ok (.tup [.str (S t),iz (a+(quo t).length)]) h':=by
 have tl:t.length<=2000:=by
  have:=ah List.length dr
  have e:∀t:List Nat,t.length<=(t.map enc).flatten.length:=by
   intro t
   induction t with
   |nil=>simp
   |cons c t ih =>
    have:1<=(enc c).length:=by unfold enc;split<;>(try split)<;>simp
    simp only[aT,b9,a9,af];omega
  have:=e t
  simp only[bF,quo,a9,af] at *;omega
 have drE:∀u v,t=u++v->T.drop (a+1+(E u).length)=E v++62::post:=λu v e=>by
  rw[<-cv,<-cv,dr,e];show(E (u++v)++[62]++post).drop (E u).length=_;simp[E]
 have wh:=alq (c:=a0k K20.gf) (f:=lr K20.gf)
  (λm τ hh=>∃u v t4,t=u++v/\τ=qau T a (a+1+(E u).length) t4/\hh=[.lst (one u)]/\m=v.length)
  (λτ hh=>∃t4,τ=qau T a (a+1+(E t).length) t4/\hh=[.lst (one t)]) (λ_ _=>False) ?_ t.length 100000 (qau T a (a+1) none) [.lst []] (by omega) ⟨[],t,none,rfl,rfl,rfl,rfl⟩
 ·rcases wh with⟨τ',h',e,t4,rfl,rfl⟩|⟨_,_,_,f⟩
  ·refine⟨[.lst (one t)],?_⟩;unfold nj;rw[fu];show toR (yx K20.gf [some (.str (S T)),some (iz a),none,none,none] [])=_;unfold yx;have s0:=p7 hl dr 1 [];refine eti (t2s (a1p (bx rfl) (vz (bx rfl)) (vz (pq rfl m5)) s0) ckk (a3l (b:=[60]) rfl)) ?_;refine etr (um (d:=.ref 0) (h1:=[.lst []]) rfl) ?_;refine ets (pq rfl m5) ?_;refine etr (a0p e) ?_;have jn:a03 (.str (S [])) [.ref 0] [.lst (one t)]=.ok (.str (S t)) [.lst (one t)]:=by
    have:=ag9 (ls:=t.map λc=>[c]) (h:=[.lst (one t)]) (i:=0) rfl (by rw[a5g];omega)
    rwa[a5g]at this
   refine etr (ig (qi (acz (z:=S []) ckk (arg1 (bx rfl)) jn) (pq rfl m5) a5f)) ?_;rw[a6l];have:((a+1+(E t).length:Nat):Int)+1=((a+(quo t).length:Nat):Int):=by
    show _=(((a+(60::(E t++[62])).length:Nat)):Int);simp only[af,a9,aK];omega
   rw[this]
  ·exact f.elim
 ·rintro m τ hh ⟨u,v,t4,e,rfl,rfl,rfl⟩
  have d1:=drE u v e;have ul:u.length<=2000:=by have:=ah List.length e;rw[a9]at this;omega
  cases v with
  |nil =>
   refine .inl ⟨_,t2s (a1p (bx rfl) (vz (bx rfl)) (vz (pq rfl m5)) (p7 hl d1 1 _)) ckk (a3l (b:=[62]) rfl),t4,?_,?_⟩
   ·rw[e,bp]
   ·rw[e,bp]
  |cons c v =>
   have gc:=g c (by rw[e];simp)
   have eq:∀w:List Nat,E (u++w)=E u++E w:=λw=>by simp[E]
   refine .inr ⟨_,t2s (a1p (bx rfl) (vz (bx rfl)) (vz (pq rfl m5)) (p7 hl d1 1 _)) ckk (a9m (b:=[62]) ?_),.inl ?_⟩
   ·show(enc c++E v++62::post).take 1≠[62];unfold enc
    split
    ·simp
    ·split
     ·simp
     ·simp;omega
   ·by_cases h:c=10\/c=62\/c=92
    ·obtain⟨y,hy,wy⟩:∃y,enc c=[92,y]/\wrt [92,y]=some c:=by
      rcases h with rfl|rfl|rfl
      ·exact⟨110,rfl,rfl⟩
      ·exact⟨62,rfl,rfl⟩
      ·exact⟨92,rfl,rfl⟩
     have d2:T.drop (a+1+(E u).length)=92::y::(E v++62::post):=by
      rw[d1];show enc c++E v++62::post=_;rw[hy];rfl
     refine⟨_,_,v.length,apn (x:=c) hl ul d2 wy,by simp,u++[c],v,(some (.str (S ((92::y::(E v++62::post)).take 2)))),by rw[e];simp,?_,rfl,rfl⟩
     have:(E (u++[c])).length=(E u).length+2:=by rw[eq,a9];show _+([c].map enc).flatten.length=_;simp[hy]
     rw[this];rfl
    ·have hy:enc c=[c]:=by unfold enc;rw[aY (λz=>h (.inl z)),aY (λz=>h (.inr z))]
     have d2:T.drop (a+1+(E u).length)=c::(E v++62::post):=by
      rw[d1];show enc c++E v++62::post=_;rw[hy];rfl
     refine⟨_,_,v.length,apo hl ul d2 gc (λz=>h (.inl z)) (λz=>h (.inr (.inr z))),by simp,u++[c],v,(some (.str (S ((c::(E v++62::post)).take 2)))),by rw[e];simp,?_,rfl,rfl⟩
     have:(E (u++[c])).length=(E u).length+1:=by rw[eq,a9];show _+([c].map enc).flatten.length=_;simp[hy]
     rw[this];rfl
theorem a7q{T t post:List Nat}{a:Nat}(hl:T.length<=2000)(g:∀c∈t,K76.Good c)(dr:T.drop a=quo t++post):Pu nj 2 [.str (S T),iz a] (.tup [.str (S t),iz (a+(quo t).length)]):=by
 obtain⟨h',e⟩:=a6t hl g dr;have c:∀n,clo n (.tup [.str (S t),iz (a+(quo t).length)]):=λn=>jg (bc (bu _) (bc (dj _) gw));refine Pu.of rfl ?_ e (j5 (c _) (by simp)) (c _)
 intro x hx
 simp only[aO,aU,bY]at hx
 rcases hx with rfl|rfl
 ·exact bu _
 ·exact dj _
end K78
namespace EVT
open L2 MI AT HND
section
variable{f g k f1 f2 f3:SE}{ka:SA}{c c1 c2:ST}{τ:Sd}{h h1 h2 h3:Hd}{a b d v:D}{i:Nat}{t u:Bool}{xs ys ds:List D}
theorem an9:dh τ h=.ok [] h:=rfl
theorem ao4:oN τ h=.ok none h:=rfl
theorem ao5(p:Dr F n ds o d o'):jd false n F (.ref 0::ds) (o::h)=.ok d (o'::h):=p 0 (o::h) rfl
theorem ana(hv:n<xs.length):gIx (.rol xs) (.int (n:Nat)) h=.ok (xs.getD n .non) h:=ape (by rw[cU,ae hv];rfl)
theorem anb(hv:n<xs.length):gIx (.tup xs) (.int (n:Nat)) h=.ok (xs.getD n .non) h:=amz (by rw[cU,ae hv];rfl)
theorem anc:wg [.tup xs] h=.ok (iz xs.length) h:=rfl
theorem at9(e:c τ h=.ok true h1)(e':f τ h1=.ok d h2):afa c f g τ h=.ok d h2:=by unfold afa;rw[e,bw,aJ rfl,e']
theorem aj9(e:f τ h=R.ok (D.ref h1.length) (h1++[.lst xs]))(hl:h1.length=h.length)(cx:clos 0 xs)(co:∀o∈h1,v6 0 o):sZ f τ h=.ok (.rol xs) h1 :=
 PAP.a6q hl e (qe (cf _) cx) λo ho=>a05 (cf _) (co o ho)
theorem aga(e:ka τ h=.ok ds h1)(hl:h1.length=h.length)(cd:clos 0 ds)(co:∀o∈h1,v6 0 o)(z:ds.length<=1000000):sZ (sA MI.a9a ka) τ h=.ok (.rol ds) h1:=by
 refine aj9 ?_ hl cd co;unfold sA;rw[e,bw];unfold MI.a9a;exact aJ (du z)
theorem acb(e:f τ h=.ok (.tup xs) h1)(hl:h1.length=h.length)(cd:clos 0 xs)(co:∀o∈h1,v6 0 o):sZ (sA a0g (aj f dh)) τ h=.ok (.rol xs) h1:=aj9 (uq e rfl) hl cd co
theorem acd(e:f τ h=.ok (.str (S l)) h1)(hl:h1.length=h.length)(co:∀o∈h1,v6 0 o)(z:l.length<=1000000):sZ (sA a0g (aj f dh)) τ h=.ok (.rol (l.map λc=>.str (S [c]))) h1:=by
 refine aj9 (uq e ?_) hl (km λ_ _=>bu _) co;show(if (S l).length<=LINE then R.ok (D.ref h1.length) (h1++[O.lst (qx (S l))]) else R.no)=_
 rw[aJ (du (by rw[zu];exact z))]
 unfold qx;rw[zr]
theorem agb(e1:f τ h=.ok (.rol xs) h1)(e2:g τ h1=.ok (.rol ys) h2)(hl:h2.length=h.length)(c1:clos 0 xs)(c2:clos 0 ys)(co:∀o∈h2,v6 0 o)(z:xs.length+ys.length<=1000000):sZ (s2 gk f g) τ h=.ok (.rol (xs++ys)) h2:=by
 refine aj9 (qu e1 e2 ?_) hl (je.mpr λx hx=>(bU.mp hx).elim (je.mp c1 x) (je.mp c2 x)) co;rw[abf (xs:=xs) (ys:=ys) rfl rfl,aJ (du z)]
theorem agc{k:Int}(e1:f τ h=.ok (.rol xs) h1)(e2:g τ h1=.ok (.int k) h2)(hl:h2.length=h.length)(c1:clos 0 xs)(co:∀o∈h2,v6 0 o)(z:xs.length*k.toNat<=1000000)(zn : -1000000<=k/\k<=1000000):sZ (s2 a1m f g) τ h=.ok (.rol (List.replicate k.toNat xs).flatten) h2:=by
 refine aj9 (qu e1 e2 ?_) hl (je.mpr λx hx=>?_) co
 ·have:a1m (.rol xs) (.int k) h2=if (-(2^63)<=k/\k<2^63)/\xs.length*k.toNat<=LINE then .ok (.ref h2.length) (h2++[.lst (List.replicate k.toNat xs).flatten]) else .no:=rfl
  rw[this,aJ ⟨by omega,du z⟩]
 ·obtain⟨l,hl,hx⟩:=List.mem_flatten.mp hx;rw[(List.mem_replicate.mp hl).2]at hx;exact je.mp c1 x hx
theorem a1i(co:∀o∈h,v6 0 o):sZ ahy τ h=.ok (.rod [] []) h:=by
 unfold sZ;show a5j h.length (.ok (.ref h.length) (h++[.dK []]))=_;rw[a2s (d':=.rod [] []) ?_ ?_]
 ·simp
 ·unfold FU a1l;rw[aY (by simp only[MI.clo];omega)]
  simp[yc]
 ·simp only[List.take_left'];exact λo ho=>a05 (cf _) (co o ho)
theorem ace:(List.replicate n xs).flatten.length=n*xs.length:=by simp
theorem a1y(c1:clos i xs)(c2:clos i ys):clos i (xs++ys):=je.mpr λx hx=>(bU.mp hx).elim (je.mp c1 x) (je.mp c2 x)
theorem a3a(c:clos i xs):clos i (xs.take n):=je.mpr λx hx=>je.mp c x (List.mem_of_mem_take hx)
theorem a3b(c:clos i xs):clos i (xs.drop n):=je.mpr λx hx=>je.mp c x (List.mem_of_mem_drop hx)
theorem a8m(c:clos i xs):clos i (List.replicate n xs).flatten:=je.mpr λx hx=>by
 obtain⟨l,hl,hx⟩:=List.mem_flatten.mp hx;rw[(List.mem_replicate.mp hl).2]at hx;exact je.mp c x hx
theorem a8n(c:clos i xs):clo i (xs.getD n .non):=by
 rw[cU]
 cases e:xs[n]? with
 |none=>exact a7j
 |some x=>exact je.mp c x (aZ e)
theorem a8o:clo i (.rod [] []):=by simp[clo,clos]
theorem acf:∀u∈([]:List O),v6 0 u:=λu hu=>by cases hu
theorem acg(c:v6 0 o):∀u∈[o],v6 0 u:=λu hu=>by rw[aL]at hu;subst hu;exact c
end
def wth(ws:List D)(k:Nat)(d:D):List D:=ws.take k++[d]++ws.drop (k+1)
theorem a8p(c:clos i ws)(cd:clo i d):clos i (wth ws k d):=a1y (a1y (a3a c) (bc cd gw)) (a3b c)
end EVT
def ltn:=@EVT.anc
local macro_rules|`(tactic|walk_at "c") => `(tactic|first|assumption|exact MI.dj _|(with_reducible exact EVT.a8o)|exact MI.bu _|exact MI.a3y _|exact MI.a7j|exact MI.gw|((with_reducible apply MI.bc)<;>walk_at "c")|((with_reducible apply MI.jg);walk_at "c")|((with_reducible apply MI.a7k);walk_at "c")|((with_reducible apply EVT.a1y)<;>walk_at "c")|((with_reducible apply EVT.a3a);walk_at "c")|((with_reducible apply EVT.a3b);walk_at "c")|((with_reducible apply EVT.a8m);walk_at "c")|((with_reducible apply EVT.a8n);walk_at "c")|((with_reducible apply EVT.a8p)<;>walk_at "c")|exact MI.km fun _ _=>MI.dj _|exact MI.km fun _ _=>MI.bu _)
local macro_rules|`(tactic|walk_at "h") => `(tactic|first|assumption|exact EVT.acf|exact EVT.acg (by assumption))
local macro_rules|`(tactic|walk_at "z") => `(tactic|first|assumption|omega|(simp only[af,aK,a9,bE,bF,aS,aM,EVT.ace,Int.reduceToNat]<;>omega))
local macro_rules|`(tactic|walk_at "l") => `(tactic|first
 |(with_reducible assumption)
 |(with_reducible exact PAP.aim)|(with_reducible exact tup1)|(with_reducible exact MI.a5f)|(with_reducible exact tup3)
 |(with_reducible exact ltn)|((with_reducible apply EVT.ao5);with_reducible assumption)
 |((with_reducible apply PAP.an1);walk_at "z")
 |((with_reducible apply EVT.ana);walk_at "z")
 |((with_reducible apply EVT.anb);walk_at "z")
 |(with_reducible exact MI.abz _ _)|(with_reducible exact neg_i _)|(with_reducible exact MI.n6 _)
 |((with_reducible apply MI.ao0);walk_at "z")|((with_reducible apply MI.aij);walk_at "z")
 |((with_reducible apply MI.anz);walk_at "z")|((with_reducible apply MI.apf);walk_at "z")
 |((with_reducible apply MI.a06);walk_at "z")|((with_reducible apply MI.a2w);walk_at "z")
 |((with_reducible apply MI.an0);walk_at "z")|((with_reducible apply MI.aep);walk_at "z")
 |exact rfl)
local macro_rules|`(tactic|walk_at "x") => `(tactic|first
 |(with_reducible assumption)
 |(with_reducible exact MI.aj7 _ _ _)
 |((with_reducible apply MI.bx);exact rfl)
 |(with_reducible exact EVT.an9)|(with_reducible exact EVT.ao4)
 |((with_reducible apply EVT.aga);walk_at "x";exact rfl;walk_at "c";walk_at "h";walk_at "z")
 |((with_reducible apply EVT.acb);walk_at "x";exact rfl;walk_at "c";walk_at "h")
 |((with_reducible apply EVT.acd);walk_at "x";exact rfl;walk_at "h";walk_at "z")
 |((with_reducible apply EVT.agb);walk_at "x";walk_at "x";exact rfl;walk_at "c";walk_at "c";walk_at "h";walk_at "z")
 |((with_reducible apply EVT.agc);walk_at "x";walk_at "x";exact rfl;walk_at "c";walk_at "h";walk_at "z";walk_at "z")
 |((with_reducible apply EVT.a1i);walk_at "h")
 |((with_reducible apply MI.qu);walk_at "x";walk_at "x";walk_at "l")
 |((with_reducible apply MI.abx);walk_at "x";walk_at "l")
 |((with_reducible apply PAP.aof);walk_at "x";walk_at "l")
 |((with_reducible apply PAP.a3z);walk_at "x";walk_at "x")
 |((with_reducible apply a1p);walk_at "x";walk_at "x";walk_at "x";walk_at "l")
 |((with_reducible apply vz);walk_at "x")
 |((with_reducible apply MI.tof);walk_at "x")
 |((with_reducible apply MI.vy);walk_at "x";walk_at "l")
 |((with_reducible apply MI.aii);walk_at "x")|((with_reducible apply MI.anx);walk_at "x")
 |((with_reducible apply MI.amw);walk_at "x";walk_at "x")|((with_reducible apply MI.amx);walk_at "x")
 |((with_reducible apply MI.orT);walk_at "x")|((with_reducible apply MI.orF);walk_at "x";walk_at "x"))
namespace K78
open L2 MI AT HND EVX
open PAP hiding a3z aim a1i a6q aof
open K76 (quo a2z neS a9m a3l eqS a1o xj acz)
theorem PuN(p:Pu F n ds d):jd false n F ds h=.ok d h:=p h
local macro_rules|`(tactic|walk_at "l") => `(tactic|first|((with_reducible apply PuN);with_reducible assumption))
inductive Sh where
 |one (s:List Nat)|row (ps:List Sh)|eit (ps:List Sh)|many (p:Sh)|tim (p:Sh) (lo hi:Nat)
mutual
def sd:Sh->D
 |.one s=>.tup [.str "one",.str (S s)]
 |.row ps=>.tup [.str "row",.tup (sds ps)]
 |.eit ps=>.tup [.str "either",.tup (sds ps)]
 |.many p=>.tup [.str "many",sd p]
 |.tim p lo hi=>.tup [.str "times",sd p,iz lo,iz hi]
def sds:List Sh->List D
 |[]=>[]
 |p::ps=>sd p::sds ps
end
theorem jl:∀ps,sds ps=ps.map sd
 |[]=>by rw[sds];rfl
 |p::ps=>by rw[sds,jl ps];rfl
mutual
theorem lw:∀p,MI.clo 0 (sd p)
 |.one s=>by rw[sd];exact jg (bc (bu _) (bc (bu _) gw))
 |.row ps=>by rw[sd];exact jg (bc (bu _) (bc (jg (vf ps)) gw))
 |.eit ps=>by rw[sd];exact jg (bc (bu _) (bc (jg (vf ps)) gw))
 |.many p=>by rw[sd];exact jg (bc (bu _) (bc (lw p) gw))
 |.tim p lo hi=>by rw[sd];exact jg (bc (bu _) (bc (lw p) (bc (dj _) (bc (dj _) gw))))
theorem vf:∀ps,clos 0 (sds ps)
 |[]=>by rw[sds];exact gw
 |p::ps=>by rw[sds];exact bc (lw p) (vf ps)
end
def Ok:Nat->Sh->Prop
 |0,_=>False
 |n+1,s=>match s with
  |.one s=>1<=s.length/\s.length<=6/\(∀c∈s,K76.Good c)/\s.Nodup
  |.row ps=>ps.length<=6/\∀p∈ps,Ok n p
  |.eit ps=>1<=ps.length/\ps.length<=6/\∀p∈ps,Ok n p
  |.many p=>Ok n p
  |.tim p lo hi=>lo<=hi/\hi<=4/\Ok n p
def inn:Sh->List Sh
 |.one _=>[]
 |.row ps=>ps
 |.eit ps=>ps
 |.many p=>[p]
 |.tim p _ _=>[p]
mutual
def wr:Sh->List Nat
 |.one s=>quo s
 |.row ps=>40::(wl false ps++[41])
 |.eit ps=>123::(wl false ps++[125])
 |.many p=>42::wr p
 |.tim p lo hi=>(48+lo)::45::(48+hi)::58::wr p
def wl:Bool->List Sh->List Nat
 |_,[]=>[]
 |b,p::ps=>(if b then [32] else [])++(wr p++wl true ps)
end
mutual
def cn:Sh->Nat
 |.one _=>1
 |.row ps=>1+cns ps
 |.eit ps=>1+cns ps
 |.many p=>1+cn p
 |.tim p _ _=>1+cn p
def cns:List Sh->Nat
 |[]=>0
 |p::ps=>cn p+cns ps
end
theorem a6u(s:Sh):cn s=1+cns (inn s):=by cases s<;>simp[cn,inn,cns]
theorem a5h:∀a b:List Sh,cns (a++b)=cns a+cns b
 |[],b=>by simp[cns]
 |p::a,b=>by rw[dG,cns,cns,a5h a b];omega
theorem ach(s:Sh):1<=cn s:=by rw[a6u];omega
theorem aci{p:Sh}:∀{ps:List Sh},p∈ps->cn p<=cns ps
 |q::ps,h=>by
  rw[cns]
  rcases aO.mp h with rfl|h
  ·omega
  ·have:=aci h;omega
theorem a5i:∀ps:List Sh,ps.length<=cns ps
 |[]=>by simp[cns]
 |p::ps=>by have:=a5i ps;have:=ach p;rw[cns,af];omega
theorem a3c{n:Nat}{s p:Sh}(k:Ok (n+1) s)(h:p∈inn s):Ok n p:=by
 cases s with
 |one s=>cases h
 |row ps=>exact k.2 p h
 |eit ps=>exact k.2.2 p h
 |many q=>rw[aL.mp h];exact k
 |tim q lo hi=>rw[aL.mp h];exact k.2.2
theorem a6v{ps:List Sh}(h:∀p∈ps,(wr p).length+1<=17*cn p):∀b,(wl b ps).length<=17*cns ps:=by
 induction ps with
 |nil=>intro b;simp[wl]
 |cons p ps ih =>
  intro b
  have a:=h p (by simp)
  have c:=ih (λq hq=>h q (by simp[hq])) true
  rw[wl,cns]
  cases b<;>simp<;>omega
theorem a8q:∀{n:Nat} {s:Sh},Ok n s->(wr s).length+1<=17*cn s
 |0,_,h=>h.elim
 |n+1,s,k=>by
  have ih:∀p∈inn s,(wr p).length+1<=17*cn p:=λp hp=>a8q (a3c k hp);have c:=a6u s
  cases s with
  |one s=>have:=a2z s;have:=k.2.1;simp only[wr,cn];omega
  |row ps=>have:=a6v ih false;simp only[wr,af,a9,aK,inn] at *;omega
  |eit ps=>have:=a6v ih false;simp only[wr,af,a9,aK,inn] at *;omega
  |many q=>have:=ih q (by simp[inn]);simp only[wr,af,inn,cns] at *;omega
  |tim q lo hi=>have:=ih q (by simp[inn]);simp only[wr,af,inn,cns] at *;omega
theorem arb:∀ps:List Sh,wl true ps=(ps.map λp=>32::wr p).flatten
 |[]=>by simp[wl]
 |p::ps=>by rw[wl,arb ps];simp
theorem ata:∀ps:List Sh,Txt.join (S [32]) ((ps.map wr).map S)=S (wl false ps):=by
 have e:∀zs:List Str,Txt.join (S [32]) zs=Str.join (S [32]) zs:=dX (S [32]);have st:∀(x y:Str) (r:List Str),Str.join (S [32]) (x::y::r)=x++S [32]++Str.join (S [32]) (y::r):=λ_ _ _=>rfl
 intro ps
 rw[e]
 induction ps with
 |nil=>simp[wl];rfl
 |cons p ps ih =>
  cases ps with
  |nil=>simp[wl];rfl
  |cons q ps =>
   rw[aT,aT,aT,aT,st,<-aT,<-aT,ih,a9j,a9j]
   congr 1
   simp[wl]
theorem agd{ps:List Sh}{h:Hd}(z:∀p∈ps,(wr p).length+1<=17*cn p)(c:cns ps<=24):a03 (.str (S [32])) [.rol (ps.map λp=>.str (S (wr p)))] h=.ok (.str (S (wl false ps))) h:=by
 have l:=a6v z true;have s:(((ps.map wr).map S).map (·.length)).sum<=(wl true ps).length:=by
  rw[K76.apl,arb]
  clear l z c
  induction ps with
  |nil=>simp
  |cons p ps ih=>simp only[aT,b9,a9,af] at *;omega
 have n:=a5i ps;have m:(ps.map λp=>D.str (S (wr p)))=(ps.map wr).map λl=>D.str (S l):=by rw[eg];rfl
 unfold a03;rw[m];simp only[K76.a8l,zu,ata,aS,aM];rw[aJ (by omega)]
theorem ix0:gIx (.tup (a::xs)) (.int 0) h=.ok a h:=amz (j:=0) rfl
theorem ix1:gIx (.tup (a::b::xs)) (.int 1) h=.ok b h:=amz (j:=1) rfl
theorem ix2:gIx (.tup (a::b::c::xs)) (.int 2) h=.ok c h:=amz (j:=2) rfl
theorem ix3:gIx (.tup (a::b::c::d::xs)) (.int 3) h=.ok d h:=amz (j:=3) rfl
theorem aja:hEq (.str x) (.str x) h=.ok (.bl true) h:=by rw[ael,bW]
theorem apq(e:(x == y)=false):hEq (.str x) (.str y) h=.ok (.bl false) h:=by rw[ael,e]
local macro_rules|`(tactic|walk_at "l") => `(tactic|first|((with_reducible apply PuN);with_reducible assumption)|(with_reducible exact ix0)|(with_reducible exact ix1)|(with_reducible exact ix2)|(with_reducible exact ix3)|(with_reducible exact aja)|((with_reducible apply apq);decide +kernel))
noncomputable def jm:SF:=jr a5e 1
theorem a8r(s:Sh):Pu jm 1 [sd s] (.tup ((inn s).map sd)):=by
 have c:MI.clo 0 (.tup ((inn s).map sd)):=by rw[<-jl];exact jg (vf _)
 refine Pu.of rfl (K20.ar1 (lw s)) (r:=.ok (.tup ((inn s).map sd)) []) ?_ (j5 c (by simp)) c
 unfold jm;rw[fu];show toR (a5e [some (sd s)] [])=_;unfold a5e
 cases s with
 |one s=>rw[sd];exact ah toR (mq (ifr (by walk_at "x") (by walk_at "x")))
 |row ps=>rw[sd,jl];exact av (ah toR (ifN (by walk_at "x"))) (ah toR (mq (ifr (by walk_at "x") (by walk_at "x"))))
 |eit ps=>rw[sd,jl];exact av (ah toR (ifN (by walk_at "x"))) (ah toR (mq (ifr (orF (by walk_at "x") (by walk_at "x")) (by walk_at "x"))))
 |many q=>rw[sd];exact av (ah toR (ifN (by walk_at "x"))) (av (ah toR (ifN (orF (by walk_at "x") (by walk_at "x")))) (ah toR (ig (by walk_at "x"))))
 |tim q lo hi=>rw[sd];exact av (ah toR (ifN (by walk_at "x"))) (av (ah toR (ifN (orF (by walk_at "x") (by walk_at "x")))) (ah toR (ig (by walk_at "x"))))
end K78
namespace K78
open L2 MI AT HND EVX
open PAP hiding a3z aim a1i a6q aof
open K76 (quo a2z neS a9m a3l eqS a1o xj acz)
local macro_rules|`(tactic|walk_at "l") => `(tactic|first|((with_reducible apply PuN);with_reducible assumption)|(with_reducible exact ix0)|(with_reducible exact ix1)|(with_reducible exact ix2)|(with_reducible exact ix3)|(with_reducible exact aja)|((with_reducible apply apq);decide +kernel))
theorem a9p{x:Str}{r:List D}{τ:Sd}{h:Hd}:sT (s2 hEq (s2 gIx (sV 0) (sI 0)) (sC (.str x))) (some (.tup (.str x::r))::τ) h=.ok true h:=t2s (pq rfl ix0) ckk aja
theorem a07{x y:Str}{r:List D}{τ:Sd}{h:Hd}(e:(x == y)=false):sT (s2 hEq (s2 gIx (sV 0) (sI 0)) (sC (.str y))) (some (.tup (.str x::r))::τ) h=.ok false h:=t2s (pq rfl ix0) ckk (apq e)
theorem apr{s:List Nat}(hl:s.length<=1000):(S s).cps.toList.length<=1000:=by rw[zr];exact hl
noncomputable def mz:SF:=jr (ww K20.gj) 2
theorem a6w{lo hi:Nat}(a:lo<=hi)(b:hi<=4):Pu mz 2 [iz lo,iz hi] (.bl true):=by
 refine K20.a3k rfl (K20.ar2 (dj _) (dj _)) (h':=[]) ?_;unfold mz;rw[fu];show toR (ww K20.gj [some (iz lo),some (iz hi)] [])=_;unfold ww;have e1:Pu K20.gj 3 [iz hi,.int 0,.int 4] (.bl true):=by
  have:=K20.a4a (d:=iz hi) trivial 0 4
  rwa[show K20.ao3 0 4 (iz hi)=true from aQ (by omega)]at this
 have e2:Pu K20.gj 3 [iz lo,.int 0,iz hi] (.bl true):=by
  have:=K20.a4a (d:=iz lo) trivial 0 (hi:Int)
  rwa[show K20.ao3 0 (hi:Int) (iz lo)=true from aQ (by omega)]at this
 exact ah toR (ig (xg (by walk_at "x") (by walk_at "x")))
noncomputable def kh:SF:=jr (a0l mz K20.p6 K20.ik) 1
theorem aip{xs:List D}{lo hi:Int}(c:clos 0 xs)(h:lo<=(xs.length:Int)/\(xs.length:Int)<=hi):Pu K20.p6 3 [.tup xs,.int lo,.int hi] (.bl true):=by
 have:=K20.aer (d:=.tup xs) c lo hi
 rwa[show K20.apk lo hi (.tup xs)=true from aQ h]at this
theorem aiq{n:Nat}{s:Sh}(k:Ok (n+1) s):Pu kh 1 [sd s] (.bl true):=by
 refine K20.a3k rfl (K20.ar1 (lw s)) (h':=[]) ?_;have ist:∀x:Str,j9 [.str x,.ty "str"] []=.ok (.bl true) []:=λx=>by simp[j9,a6f,tyD,a4t]
 unfold kh;rw[fu];show toR (a0l mz K20.p6 K20.ik [some (sd s)] [])=_;unfold a0l;have ask:∀(x:Str) (r:List D),clos 0 r->1<=r.length->r.length<=3->sOr (a70 (a3e (sA (jd false 3 K20.p6) (aj (sV 0) (aj (sI 2) (aj (sI 4) dh)))))) (a70 (a3e (sA j9 (aj (s2 gIx (sV 0) (sI 0)) (aj (sC (.ty "str")) dh))))) [some (.tup (.str x::r))] []=.ok false []:=λx r c r1 r2=>by
  have e:=aip (xs:=.str x::r) (lo:=2) (hi:=4) (bc (bu _) c) (by simp only[af];omega)
  have i:=ist x;exact orF (by walk_at "x") (by walk_at "x")
 cases s with
 |one s =>
  obtain⟨k1,k2,k3,k4⟩:=k;rw[sd];have u:Pu K20.ik 1 [.str (S s)] (.bl true):=by
   have:=K20.ac4 (d:=.str (S s)) (apr (by omega))
   have e:K20.an5 (.str (S s))=true:=by
    rw[K20.ag6];unfold K20.an4;rw[aQ ⟨k1,k2⟩,aQ k4,bJ.mpr λc hc=>aQ (a1x (k3 c hc))];rfl
   rwa[e]at this
  refine eti (ask _ _ (bc (bu _) gw) (by simp) (by simp)) ?_
  refine ah toR (mq (av (ifT a9p) ?_));exact ig (xg (qu (uq (bx rfl) ltn) ckk (a06 rfl)) (uq (pq rfl ix1) (u _)))
 |row ps =>
  obtain⟨k1,k2⟩:=k;rw[sd,jl];have c:clos 0 (ps.map sd):=jl ps ▸ vf ps;have u:=aip (xs:=ps.map sd) (lo:=0) (hi:=6) c (by rw[aS];omega)
  refine eti (ask _ _ (bc (jg c) gw) (by simp) (by simp)) ?_
  refine eti (a07 (by decide +kernel)) ?_
  refine ah toR (mq (av (ifT a9p) ?_));exact ig (xg (qu (uq (bx rfl) ltn) ckk (a06 rfl)) (aem (pq rfl ix1) ckk ckk (u _)))
 |eit ps =>
  obtain⟨k0,k1,k2⟩:=k;rw[sd,jl];have c:clos 0 (ps.map sd):=jl ps ▸ vf ps;have u:=aip (xs:=ps.map sd) (lo:=1) (hi:=6) c (by rw[aS];omega)
  refine eti (ask _ _ (bc (jg c) gw) (by simp) (by simp)) ?_
  refine eti (a07 (by decide +kernel)) ?_
  refine eti (a07 (by decide +kernel)) ?_
  refine ah toR (mq (av (ifT a9p) ?_));exact ig (xg (qu (uq (bx rfl) ltn) ckk (a06 rfl)) (aem (pq rfl ix1) ckk ckk (u _)))
 |many q =>
  rw[sd];refine eti (ask _ _ (bc (lw q) gw) (by simp) (by simp)) ?_
  refine eti (a07 (by decide +kernel)) ?_
  refine eti (a07 (by decide +kernel)) ?_
  refine eti (a07 (by decide +kernel)) ?_
  refine ah toR (mq (av (ifT a9p) ?_));exact ig (qu (uq (bx rfl) ltn) ckk (a06 rfl))
 |tim q lo hi =>
  obtain⟨k1,k2,k3⟩:=k;rw[sd];have u:=a6w k1 k2;refine eti (ask _ _ (bc (lw q) (bc (dj _) (bc (dj _) gw))) (by simp) (by simp)) ?_
  refine eti (a07 (by decide +kernel)) ?_
  refine eti (a07 (by decide +kernel)) ?_
  refine eti (a07 (by decide +kernel)) ?_
  refine eti (a07 (by decide +kernel)) ?_
  refine ah toR (ig ?_);refine xg (qu (pq rfl ix0) ckk aja) ?_;refine xg (qu (uq (bx rfl) ltn) ckk (a06 rfl)) ?_;exact qi (pq rfl ix2) (pq rfl ix3) (u _)
noncomputable def dz:Nat->SF
 |0=>λ_ _=>.no
 |n+1=>jr (u5 jm kh (dz n)) 6
theorem air{a b:Nat}{h:Hd}(l:b<=a):MI.a6z (iz a) (iz b) h=.ok (iz (a-b)) h:=by
 rw[abz];exact ah (λz=>R.ok (D.int z) h) (by omega)
theorem aps(xs:List D)(h:Hd):adw (.tup xs) h=.ok ⟨xs,λ_=>True⟩ h:=rfl
theorem a8s:∀{n d:Nat} {s:Sh} {e m:Nat},Ok d s->d<=n->d<=e->cn s<=m->Pu (dz n) 3 [sd s,iz e,iz m] (iz (cn s))
 |0,d,s,e,m,k,h1,h2,h3=>by cases eU.mp h1;exact k.elim
 |n+1,0,s,e,m,k,h1,h2,h3=>k.elim
 |n+1,d+1,s,e,m,k,h1,h2,h3=>by
  have ih:∀p∈inn s,∀q,cn p<=q->Pu (dz n) 3 [sd p,iz (e-1),iz q] (iz (cn p)):=λp hp q hq=>a8s (a3c k hp) (by omega) (by omega) hq
  have c1:=a6u s;have f:=aiq k;have i:=a8r s;refine Pu.of rfl (K20.ar3 (lw s) (dj _) (dj _)) (r:=.ok (iz (cn s)) []) ?_ (j5 (dj _) (by simp)) (dj _)
  rw[dz,fu];show toR (u5 jm kh (dz n) [some (sd s),some (iz e),some (iz m),none,none,none] [])=_;unfold u5;refine eti (orF (tvc rfl (aij (by omega))) (orF (tvc rfl (aij (by omega))) (by walk_at "x"))) ?_
  refine etr (um ckk) ?_;refine etr (aeo (aj8 (by walk_at "x") (aps _ _))) ?_
  have lp:=a1s (g:=kN 4) (b:=rz jm kh (dz n)) sd
   (λpre τ hh=>∃a b:Option D,τ=[some (sd s),some (iz e),some (iz m),some (iz (1+cns pre)),a,b]/\hh=[])
   (inn s) [some (sd s),some (iz e),some (iz m),some (.int 1),none,none] [] ?_ ⟨none,none,rfl,rfl⟩
  ·obtain⟨τ',h',e',a,b,rfl,rfl⟩:=lp;refine av (ah (λz=>toR (thn z _)) e') ?_;rw[a2r,c1];exact ah toR (ig (bx rfl))
  ·rintro pre x post τ hh all ⟨a,b,rfl,rfl⟩
   have l:=a5h pre (x::post);rw[<-all,cns]at l;have xm:x∈inn s:=by rw[all];simp
   have px:=ach x;have w:=ih x xm (m-(1+cns pre)) (by omega)
   refine⟨_,_,rfl,[some (sd s),some (iz e),some (iz m),some (iz (1+cns (pre++[x]))),some (sd x),some (iz (cn x))],[],?_,_,_,rfl,rfl⟩;unfold rz;refine av (um (aem (bx rfl) (pq rfl (air (a:=e) (b:=1) (by omega))) (qu (bx rfl) (bx rfl) (air (by omega))) (w _))) ?_
   refine av (ifN (tvc rfl (a2w (by omega)))) ?_
   refine av (aen rfl (bx rfl) a1d) ?_;rw[show(D.int (((1+cns pre:Nat):Int)+((cn x:Nat):Int)))=iz (1+cns (pre++[x])) from ah D.int (by rw[a5h,cns,cns];omega)]
   rfl
noncomputable def qj:SF:=jr (yz (dz 5)) 1
theorem a7r{s:Sh}(k:Ok 5 s)(c:cn s<=24):Pu qj 1 [sd s] (.bl true):=by
 refine K20.a3k rfl (K20.ar1 (lw s)) (h':=[]) ?_;unfold qj;rw[fu];show toR (yz (dz 5) [some (sd s)] [])=_;unfold yz;have p:Pu (dz 5) 3 [sd s,.int 5,.int 24] (iz (cn s)):=a8s (e:=5) (m:=24) k (ai _) (ai _) c;have:=ach s;exact ah toR (ig (qu (by walk_at "x") ckk (anz (by omega))))
theorem ane{f:SE}{k:Str->SE}{o y:List Nat}{τ:Sd}{h h1:Hd}(e:f τ h=.ok (.str (S y)) h1)(z:o.length+y.length<=1000000):afx f k (S o) τ h=k (S (o++y)) τ h1:=by
 unfold afx;rw[e,bw];dsimp only;rw[zu,zu,aJ (du z),a9j]
theorem apt{i:Int}(c:i.natAbs.log2<1920)(h:Hd):acy (.int i) h=.ok (.str (toString i)) h:=aJ c
theorem anf{k:Nat}(hk:k<=4)(h:Hd):acy (iz k) h=.ok (.str (S [48+k])) h:=by
 have:k=0\/k=1\/k=2\/k=3\/k=4:=by omega
 rcases this with rfl|rfl|rfl|rfl|rfl<;>exact(apt (by decide +kernel) h).trans rfl
theorem apu{l:List Nat}(hl:l.length<=1000000)(h:Hd):acy (.str (S l)) h=.ok (.str (S l)) h:=by
 unfold acy;dsimp only;rw[zu,aJ (du hl)]
noncomputable def gh:Nat->SF
 |0=>λ_ _=>.no
 |n+1=>jr (uy jm K76.m9 (gh n)) 2
theorem acj:∀{n d:Nat} {s:Sh},Ok d s->d<=n->cn s<=24->Pu (gh n) 1 [sd s] (.str (S (wr s)))
 |0,d,s,k,h1,h3=>by cases eU.mp h1;exact k.elim
 |n+1,0,s,k,h1,h3=>k.elim
 |n+1,d+1,s,k,h1,h3=>by
  have c1:=a6u s;have ih:∀p∈inn s,Pu (gh n) 1 [sd p] (.str (S (wr p))):=λp hp=>acj (a3c k hp) (by omega) (by have:=aci hp;omega)
  have pl:∀p∈inn s,(wr p).length+1<=17*cn p:=λp hp=>a8q (a3c k hp);have i:=a8r s;refine Pu.of rfl (K20.ar1 (lw s)) (r:=.ok (.str (S (wr s))) []) ?_ (j5 (bu _) (by simp)) (bu _)
  rw[gh,fu];show toR (uy jm K76.m9 (gh n) [some (sd s),none] [])=_;unfold uy;have cz:sZ (vg (sIt (sA (jd false 1 jm) (aj (sV 0) dh))) t1 (yo jm K76.m9 (gh n)) []) [some (sd s),none] []=.ok (.rol ((inn s).map λp=>.str (S (wr p)))) []:=by
   refine a7m (yq sd (λp=>.str (S (wr p))) (inn s) (aj8 (by walk_at "x") (aps _ _)) (du (by have:=a5i (inn s);omega)) λp hp=>?_) (km λc _=>bu _) (by simp)
   rw[a2v];exact uq (bx rfl) (ih p hp _)
  have jn:=agd pl (by omega) (h:=[])
  have wlen:=a6v pl false
  clear ih i
  cases s with
  |one s =>
   have q:Pu K76.m9 1 [.str (S s)] (.str (S (quo s))):=K76.aca (by have:=k.2.1;omega)
   rw[sd,wr];refine ah toR (mq (av (ifT a9p) ?_));exact ig (uq (pq rfl ix1) (q _))
  |row ps =>
   rw[sd]at cz ⊢;rw[wr];refine eti (a07 (by decide +kernel)) ?_
   refine etr (um cz) ?_;refine ah toR (mq (av (ifT a9p) ?_));exact ig (qu (qu ckk (acz (z:=S [32]) ckk (arg1 (bx rfl)) jn) (qg (a:=[40]) (du (by simp only[inn,aM] at *;omega)))) ckk (qg (b:=[41]) (du (by simp only[inn,af,a9,aK] at *;omega))))
  |eit ps =>
   rw[sd]at cz ⊢;rw[wr];refine eti (a07 (by decide +kernel)) ?_
   refine etr (um cz) ?_;refine eti (a07 (by decide +kernel)) ?_
   refine ah toR (mq (av (ifT a9p) ?_));exact ig (qu (qu ckk (acz (z:=S [32]) ckk (arg1 (bx rfl)) jn) (qg (a:=[123]) (du (by simp only[inn,aM] at *;omega)))) ckk (qg (b:=[125]) (du (by simp only[inn,af,a9,aK] at *;omega))))
  |many q =>
   have l:=pl q (by simp[inn])
   rw[sd]at cz ⊢;rw[wr];have g:gIx (.rol ((inn (.many q)).map λp=>.str (S (wr p)))) (.int 0) []=.ok (.str (S (wr q))) []:=ape (j:=0) rfl;refine eti (a07 (by decide +kernel)) ?_
   refine etr (um cz) ?_;refine eti (a07 (by decide +kernel)) ?_
   refine eti (a07 (by decide +kernel)) ?_
   refine ah toR (mq (av (ifT a9p) ?_));exact ig (qu ckk (pq rfl g) (qg (a:=[42]) (du (by simp only[inn,cns,aM] at *;omega))))
  |tim q lo hi =>
   have l:=pl q (by simp[inn])
   obtain⟨k1,k2,k3⟩:=k;rw[sd]at cz ⊢;rw[wr];have g:gIx (.rol ((inn (.tim q lo hi)).map λp=>.str (S (wr p)))) (.int 0) []=.ok (.str (S (wr q))) []:=ape (j:=0) rfl;have ql:(wr q).length<=10000:=by simp only[inn,cns] at *;omega
   refine eti (a07 (by decide +kernel)) ?_
   refine etr (um cz) ?_;refine eti (a07 (by decide +kernel)) ?_
   refine eti (a07 (by decide +kernel)) ?_
   refine eti (a07 (by decide +kernel)) ?_
   refine ah toR (ig ?_);refine av (ane (o:=[]) (y:=[48+lo]) (abx (by walk_at "x") (anf (by omega) _)) (by simp)) ?_
   refine av (ane (y:=[45]) ckk (by simp)) ?_
   refine av (ane (y:=[48+hi]) (abx (by walk_at "x") (anf (by omega) _)) (by simp)) ?_
   refine av (ane (y:=[58]) ckk (by simp)) ?_
   refine av (ane (y:=wr q) (abx (by walk_at "x") (apu (by omega) _)) (by simp;omega)) ?_
   rfl
noncomputable def cj:Nat->SF
 |0=>λ_ _=>.no
 |n+1=>jr (u9 K76.iy (cj n)) 1
theorem age{k:Nat}(hk:k<=4)(h:Hd):gIx (.str "012345") (iz k) h=.ok (.str (S [48+k])) h:=by
 have:k=0\/k=1\/k=2\/k=3\/k=4:=by omega
 rcases this with rfl|rfl|rfl|rfl|rfl<;>exact aj6 (l:=[48,49,50,51,52,53]) (du (by decide)) rfl
theorem zg:∀{n d:Nat} {s:Sh},Ok d s->d<=n->cn s<=24->Pu (cj n) 1 [sd s] (.str (S (wr s)))
 |0,d,s,k,h1,h3=>by cases eU.mp h1;exact k.elim
 |n+1,0,s,k,h1,h3=>k.elim
 |n+1,d+1,s,k,h1,h3=>by
  have c1:=a6u s;have ih:∀p∈inn s,Pu (cj n) 1 [sd p] (.str (S (wr p))):=λp hp=>zg (a3c k hp) (by omega) (by have:=aci hp;omega)
  have pl:∀p∈inn s,(wr p).length+1<=17*cn p:=λp hp=>a8q (a3c k hp);refine Pu.of rfl (K20.ar1 (lw s)) (r:=.ok (.str (S (wr s))) []) ?_ (j5 (bu _) (by simp)) (bu _)
  rw[cj,fu];show toR (u9 K76.iy (cj n) [some (sd s)] [])=_;unfold u9;have cz:∀(x:Str) (ps:List Sh),ps=inn s->sZ (vg (sIt (s2 gIx (sV 0) (sI 1))) t1 (xr K76.iy (cj n)) []) [some (.tup [.str x,.tup (ps.map sd)])] []=.ok (.rol (ps.map λp=>.str (S (wr p)))) []:=by
   rintro x ps rfl
   refine a7m (yq sd (λp=>.str (S (wr p))) (inn s) (aj8 (by walk_at "x") (aps _ _)) (du (by have:=a5i (inn s);omega)) λp hp=>?_) (km λc _=>bu _) (by simp)
   rw[a2v];exact uq (bx rfl) (ih p hp _)
  have jn:=agd pl (by omega) (h:=[])
  have wlen:=a6v pl false
  cases s with
  |one s =>
   have q:Pu K76.iy 1 [.str (S s)] (.str (S (quo s))):=K76.a6s (by have:=k.2.1;omega)
   rw[sd,wr];refine ah toR (mq (av (ifT a9p) ?_));exact ig (uq (pq rfl ix1) (q _))
  |row ps =>
   have cz:=cz "row" ps rfl;rw[sd,jl,wr];refine eti (a07 (by decide +kernel)) ?_
   refine ah toR (mq (av (ifT a9p) ?_));exact ig (qu (qu ckk (acz (z:=S [32]) ckk (arg1 cz) jn) (qg (a:=[40]) (du (by simp only[inn,aM] at *;omega)))) ckk (qg (b:=[41]) (du (by simp only[inn,af,a9,aK] at *;omega))))
  |eit ps =>
   have cz:=cz "either" ps rfl;rw[sd,jl,wr];refine eti (a07 (by decide +kernel)) ?_
   refine eti (a07 (by decide +kernel)) ?_
   refine ah toR (mq (av (ifT a9p) ?_));exact ig (qu (qu ckk (acz (z:=S [32]) ckk (arg1 cz) jn) (qg (a:=[123]) (du (by simp only[inn,aM] at *;omega)))) ckk (qg (b:=[125]) (du (by simp only[inn,af,a9,aK] at *;omega))))
  |many q =>
   have l:=pl q (by simp[inn])
   have w:=ih q (by simp[inn])
   rw[sd,wr];refine eti (a07 (by decide +kernel)) ?_
   refine eti (a07 (by decide +kernel)) ?_
   refine eti (a07 (by decide +kernel)) ?_
   refine ah toR (mq (av (ifT a9p) ?_));exact ig (qu ckk (uq (pq rfl ix1) (w _)) (qg (a:=[42]) (du (by simp only[inn,cns,aM] at *;omega))))
  |tim q lo hi =>
   have l:=pl q (by simp[inn])
   have w:=ih q (by simp[inn])
   obtain⟨k1,k2,k3⟩:=k;rw[sd,wr];have ql:(wr q).length<=10000:=by simp only[inn,cns] at *;omega
   have f1:=age (k:=lo) (by omega) []
   have f2:=age (k:=hi) (by omega) []
   refine eti (a07 (by decide +kernel)) ?_
   refine eti (a07 (by decide +kernel)) ?_
   refine eti (a07 (by decide +kernel)) ?_
   refine eti (a07 (by decide +kernel)) ?_
   exact ah toR (ig (qu (qu (qu (qu (qu ckk (pq rfl ix2) f1) ckk (qg (b:=[45]) (du (by simp)))) (qu ckk (pq rfl ix3) f2) (qg (du (by simp)))) ckk (qg (b:=[58]) (du (by simp)))) (uq (pq rfl ix1) (w _)) (qg (du (by simp;omega)))))
end K78
namespace K78
open L2 MI AT HND EVX
open K76 (quo a2z neS a9m a3l eqS a1o xj acz a1p vz)
section
variable{h:Hd}{a b:Nat}{d:D}{xs:List D}
theorem agf(j:Nat):gk (iz a) (iz j) h=.ok (iz (a+j)) h:=rfl
theorem arc{w x y z:D}:MI.xu [w,x,y,z] h=.ok (.tup [w,x,y,z]) h:=by unfold MI.xu;rw[aJ (du (by simp))]
theorem ack:gIs (.tup xs) .non h=.ok (.bl false) h:=rfl
theorem agg{k:Nat}(hk:k<=4):aj5 vq (.str (S [48+k])) h=.ok (.bl false) h:=by
 have:k=0\/k=1\/k=2\/k=3\/k=4:=by omega
 have e:∀z:Str,decide (z∈vq)=true->aj5 vq (.str z) h=.ok (.bl false) h:=λz q=>by unfold aj5;simp only[q,eE]
 rcases this with rfl|rfl|rfl|rfl|rfl<;>exact e _ (by decide +kernel)
theorem agh{k:Nat}(hk:k<=4):a7n [.str (S [48+k])] h=.ok (iz k) h:=by
 have:k=0\/k=1\/k=2\/k=3\/k=4:=by omega
 have e:∀(z:Str) (n:Int),PySem.intText? z=some n->z.length<=640->a7n [.str z] h=.ok (.int n) h:=λz n q l=>by unfold a7n;simp only[q,aJ l]
 rcases this with rfl|rfl|rfl|rfl|rfl<;>exact e _ _ (by decide +kernel) (by decide +kernel)
end
noncomputable def v5:SF:=jr (a1v nj) 5
mutual
noncomputable def di:Nat->SF
 |0=>λ_ _=>.no
 |n+1=>jr (za (uo n) v5 (nq n) (qm n)) 4
noncomputable def uo:Nat->SF
 |0=>λ_ _=>.no
 |n+1=>jr (a0n (di n)) 6
noncomputable def nq:Nat->SF
 |0=>λ_ _=>.no
 |n+1=>jr (zb (di n)) 10
noncomputable def qm:Nat->SF
 |0=>λ_ _=>.no
 |n+1=>jr (zc (di n)) 7
end
abbrev rd(s:Sh)(e:Nat):D:=.tup [sd s,iz e]
theorem a1j(s:Sh)(e:Nat)(n:Nat):clo n (rd s e):=a6m (cf _) (jg (bc (lw s) (bc (dj _) gw)))
def At(n d:Nat):Prop:=∀(s:Sh) (T post:List Nat) (a e:Nat),Ok d s->T.length<=2000->T.drop a=wr s++post->d<=e->Pu (di n) 3 [.str (S T),iz a,iz e] (rd s (a+(wr s).length))
theorem ang{T t post:List Nat}{a:Nat}(hl:T.length<=2000)(g:∀c∈t,K76.Good c)(dr:T.drop a=quo t++post):Pu v5 2 [.str (S T),iz a] (rd (.one t) (a+(quo t).length)):=by
 have q:=a7q hl g dr;refine Pu.of rfl (K20.ar2 (bu _) (dj _)) (r:=.ok (rd (.one t) (a+(quo t).length)) []) ?_ (j5 (a1j _ _ _) (by simp)) (a1j _ _ _)
 unfold v5;rw[fu];show toR (a1v nj [some (.str (S T)),some (iz a),none,none,none] [])=_;unfold a1v;refine ets (qi (bx rfl) (bx rfl) (q _)) ?_;refine eti (tvc rfl ack) ?_;refine etr (a0p (a9l (bx rfl) rfl)) ?_;rw[rd,sd];exact ah toR (ig (qi (qi ckk (bx rfl) a5f) (bx rfl) a5f))
section
variable{n d a e:Nat}{T post:List Nat}
theorem ais(ih:At n d)(hl:T.length<=2000)(he:d<=e){q:Sh}(k:Ok d q)(dr:T.drop a=42::(wr q++post)):Pu (uo (n+1)) 3 [.str (S T),iz a,iz (e+1)] (rd (.many q) (a+(wr (.many q)).length)):=by
 have i:=ih q T post (a+1) e k hl (by rw[<-cv,dr];rfl) he
 refine Pu.of rfl (K20.ar3 (bu _) (dj _) (dj _)) (r:=.ok (rd (.many q) (a+(wr (.many q)).length)) []) ?_ (j5 (a1j _ _ _) (by simp)) (a1j _ _ _)
 rw[uo,fu];show toR (a0n (di n) [some (.str (S T)),some (iz a),some (iz (e+1)),none,none,none] [])=_;unfold a0n;refine ets (aem (bx rfl) (pq rfl (agf 1)) (pq rfl (air (a:=e+1) (b:=1) (by omega))) (i _)) ?_
 refine eti (tvc rfl ack) ?_;refine etr (a0p (a9l (bx rfl) rfl)) ?_;have er:rd (.many q) (a+(wr (.many q)).length)=.tup [.tup [.str "many",sd q],iz (a+1+(wr q).length)]:=by
  rw[show a+(wr (.many q)).length=a+1+(wr q).length by rw[wr,af];omega]
  simp only[rd,sd]
 rw[er];exact ah toR (ig (qi (qi ckk (bx rfl) a5f) (bx rfl) a5f))
theorem aes(ih:At n d)(hl:T.length<=2000)(he:d<=e){q:Sh}{lo hi:Nat}(k1:lo<=4)(k2:hi<=4)(k:Ok d q)(dr:T.drop a=(48+lo)::45::(48+hi)::58::(wr q++post)):Pu (qm (n+1)) 3 [.str (S T),iz a,iz (e+1)] (rd (.tim q lo hi) (a+(wr (.tim q lo hi)).length)):=by
 have i:=ih q T post (a+4) e k hl (by rw[<-cv,dr];rfl) he
 have p0:a9f (.str (S T)) (some (a:Int)) (some ((a:Int)+(4:Nat))) []=.ok (.str (S [48+lo,45,48+hi,58])) []:=p7 hl dr 4 [];have s1:a9f (.str (S [48+lo,45,48+hi,58])) (some 1) (some 2) []=.ok (.str (S [45])) []:=ap9 (l:=[48+lo,45,48+hi,58]) 1 2 (du (by simp))
 have s3:a9f (.str (S [48+lo,45,48+hi,58])) (some 3) (some 4) []=.ok (.str (S [58])) []:=ap9 (l:=[48+lo,45,48+hi,58]) 3 4 (du (by simp))
 have x0:gIx (.str (S [48+lo,45,48+hi,58])) (.int 0) []=.ok (.str (S [48+lo])) []:=aj6 (i:=0) (du (by simp)) rfl
 have x2:gIx (.str (S [48+lo,45,48+hi,58])) (.int 2) []=.ok (.str (S [48+hi])) []:=aj6 (i:=2) (du (by simp)) rfl
 refine Pu.of rfl (K20.ar3 (bu _) (dj _) (dj _)) (r:=.ok (rd (.tim q lo hi) (a+(wr (.tim q lo hi)).length)) []) ?_ (j5 (a1j _ _ _) (by simp)) (a1j _ _ _)
 rw[qm,fu];show toR (zc (di n) [some (.str (S T)),some (iz a),some (iz (e+1)),none,none,none,none] [])=_;unfold zc;refine ets (a1p (bx rfl) (vz (bx rfl)) (vz (pq rfl m5)) p0) ?_;refine eti (orF (t2s (a1p (bx rfl) (vz ckk) (vz ckk) s1) ckk (a3l (b:=[45]) rfl)) (orF (t2s (a1p (bx rfl) (vz ckk) (vz ckk) s3) ckk (a3l (b:=[58]) rfl)) (orF (tof (abx (pq rfl x0) (agg k1))) (tof (abx (pq rfl x2) (agg k2)))))) ?_;refine ets (aem (bx rfl) (pq rfl (agf 4)) (pq rfl (air (a:=e+1) (b:=1) (by omega))) (i _)) ?_
 refine eti (tvc rfl ack) ?_;refine etr (a0p (a9l (bx rfl) rfl)) ?_;have er:rd (.tim q lo hi) (a+(wr (.tim q lo hi)).length)=.tup [.tup [.str "times",sd q,iz lo,iz hi],iz (a+4+(wr q).length)]:=by
  rw[show a+(wr (.tim q lo hi)).length=a+4+(wr q).length by rw[wr];simp only[af];omega]
  simp only[rd,sd]
 rw[er];exact ah toR (ig (qi (ain ckk (bx rfl) (uq (pq rfl x0) (agh k1)) (uq (pq rfl x2) (agh k2)) arc) (bx rfl) a5f))
theorem apv:∀{n:Nat} {s:Sh},Ok n s->∃c r,wr s=c::r/\c≠41/\c≠125/\c≠32
 |0,_,h=>h.elim
 |n+1,.one s,_=>⟨60,_,by rw[wr];rfl,by decide,by decide,by decide⟩
 |n+1,.row s,_=>⟨40,_,by rw[wr],by decide,by decide,by decide⟩
 |n+1,.eit s,_=>⟨123,_,by rw[wr],by decide,by decide,by decide⟩
 |n+1,.many s,_=>⟨42,_,by rw[wr],by decide,by decide,by decide⟩
 |n+1,.tim q lo hi,k=>⟨48+lo,_,by rw[wr],by have:=k.1;have:=k.2.1;omega,by have:=k.1;have:=k.2.1;omega,by have:=k.1;have:=k.2.1;omega⟩
abbrev pst(T:List Nat)(a e:Nat)(w:Str)(en:Nat)(k:Nat)(x8 x9:Option D):Sd:=[some (.str (S T)),some (iz a),some (iz (e+1)),some (.tup [.str w,.str (S [en])]),some (.str w),some (.str (S [en])),some (.ref 0),some (iz k),x8,x9]
theorem turn(ih:At n d)(hl:T.length<=2000)(he:d<=e){p:Sh}{r done:List Sh}{w:Str}{en k:Nat}{x8 x9:Option D}(kp:Ok d p)(dl:done.length<=100)(dr:T.drop k=wl (!done.isEmpty) (p::r)++en::post):u6 (di n) (pst T a e w en k x8 x9) [.lst (done.map sd)]=.nx (pst T a e w en (k+(if done.isEmpty then 0 else 1)+(wr p).length) (some (rd p (k+(if done.isEmpty then 0 else 1)+(wr p).length))) (some (sd p))) [.lst ((done++[p]).map sd)]:=by
 have last:∀k',T.drop k'=wr p++(wl true r++en::post)->∀x8 x9,il (o8 8 (sA (jd false 3 (di n)) (aj (sV 0) (aj (sV 7) (aj (s2 MI.a6z (sV 2) (sI 1)) dh))))) (il (sIf (sT (s2 gIs (sV 8) (sC .non))) a5k sNx) (il (a9o (sV 8) (aau 2 (w6 (kN 9) (w6 (kN 7) acv)))) (a4q (sML acx (sV 6) (aj (sV 9) dh))))) (pst T a e w en k' x8 x9) [.lst (done.map sd)]=.nx (pst T a e w en (k'+(wr p).length) (some (rd p (k'+(wr p).length))) (some (sd p))) [.lst ((done++[p]).map sd)]:=λk' dr' x8 x9=>by
  have i:=ih p T _ k' e kp hl dr' he;refine av (um (aem (bx rfl) (bx rfl) (pq rfl (air (a:=e+1) (b:=1) (by omega))) (i _))) ?_
  refine av (ifN (tvc rfl ack)) ?_;refine av (a0p (a9l (bx rfl) rfl)) ?_;refine av (abw (bx rfl) rfl (arg1 (bx rfl)) (aby (xs:=done.map sd) rfl (ac0 (by simp;omega)))) ?_
  rw[eN];rfl
 unfold u6
 cases done with
 |nil =>
  refine av (ifN (vy (d:=.ref 0) (bx rfl) rfl)) ?_;exact last k (by rw[dr];simp[wl]) x8 x9
 |cons q done =>
  have dr':T.drop k=32::(wr p++(wl true r++en::post)):=by rw[dr];simp[wl]
  refine av (a0p (τ1:=pst T a e w en (k+1) x8 x9) (h1:=[.lst ((q::done).map sd)]) ?_) ?_
  ·refine av (ifT (vy (d:=.ref 0) (bx rfl) rfl)) ?_;refine av (ifN (t2s (a1p (bx rfl) (vz (bx rfl)) (vz (pq rfl m5)) (p7 hl dr' 1 _)) ckk (a3l (b:=[32]) rfl))) ?_;exact aen rfl ckk a1d
  ·exact last (k+1) (by rw[<-cv,dr'];rfl) x8 x9
theorem a3d(ih:At n d)(hl:T.length<=2000)(he:d<=e){ps:List Sh}{w:Str}{en:Nat}(cw:w = "row"\/w = "either")(ce:en=41\/en=125)(c0:Nat)(k:∀p∈ps,Ok d p)(pl:ps.length<=6)(dr:T.drop a=c0::(wl false ps++en::post)):Pu (nq (n+1)) 4 [.str (S T),iz a,iz (e+1),.tup [.str w,.str (S [en])]] (.tup [.tup [.str w,.tup (ps.map sd)],iz (a+1+(wl false ps).length+1)]):=by
 have cl:∀m,clo m (.tup [.tup [.str w,.tup (ps.map sd)],iz (a+1+(wl false ps).length+1)]):=λm=>a6m (cf _) (jg (bc (jg (bc (bu _) (bc (jg (jl ps ▸ vf ps)) gw))) (bc (dj _) gw)));have dr1:T.drop (a+1)=wl false ps++en::post:=by rw[<-cv,dr];rfl
 have wh:=alq (c:=a0m (di n)) (f:=u6 (di n))
  (λm τ hh=>∃done todo k x8 x9,ps=done++todo/\τ=pst T a e w en k x8 x9/\hh=[.lst (done.map sd)]/\m=todo.length/\T.drop k=wl (!done.isEmpty) todo++en::post/\k+(wl (!done.isEmpty) todo).length=a+1+(wl false ps).length)
  (λτ hh=>∃x8 x9,τ=pst T a e w en (a+1+(wl false ps).length) x8 x9/\hh=[.lst (ps.map sd)]) (λ_ _=>False) ?_ ps.length 100000 (pst T a e w en (a+1) none none) [.lst []] (by omega) ⟨[],ps,a+1,none,none,rfl,rfl,rfl,rfl,dr1,rfl⟩
 ·rcases wh with⟨τ',h',e',x8,x9,rfl,rfl⟩|⟨_,_,_,f⟩
  ·refine Pu.of rfl (K20.ar4 (bu _) (dj _) (dj _) (jg (bc (bu _) (bc (bu _) gw)))) (r:=.ok (.tup [.tup [.str w,.tup (ps.map sd)],iz (a+1+(wl false ps).length+1)]) [.lst (ps.map sd)]) ?_ (j5 (cl _) (by simp)) (cl _)
   rw[nq,fu];show toR (zb (di n) [some (.str (S T)),some (iz a),some (iz (e+1)),some (.tup [.str w,.str (S [en])]),none,none,none,none,none,none] [])=_;unfold zb;refine etr (a0p (a9l (bx rfl) rfl)) ?_;refine etr (um (d:=.ref 0) (h1:=[.lst []]) rfl) ?_;refine ets (pq rfl m5) ?_;refine etr (a0p e') ?_;have gt:uw [.ref 0] [.lst (ps.map sd)]=.ok (.tup (ps.map sd)) [.lst (ps.map sd)]:=rfl;exact ah toR (ig (qi (qi (bx rfl) (uq (bx rfl) gt) a5f) (pq rfl (agf 1)) a5f))
  ·exact f.elim
 ·rintro m τ hh ⟨done,todo,k',x8,x9,rfl,rfl,rfl,rfl,dk,lk⟩
  cases todo with
  |nil =>
   refine .inl ⟨_,t2s (a1p (bx rfl) (vz (bx rfl)) (vz (pq rfl m5)) (p7 hl dk 1 _)) (bx rfl) (a3l (b:=[en]) (by cases done<;>simp[wl])),x8,x9,?_,?_⟩
   ·rw[<-lk,show(wl (!done.isEmpty) []).length=0 by cases done<;>simp[wl]];rfl
   ·rw[bp]
  |cons p r =>
   have kp:=k p (by simp)
   obtain⟨c,u,ec,c1,c2,c3⟩:=apv kp;refine .inr ⟨_,t2s (a1p (bx rfl) (vz (bx rfl)) (vz (pq rfl m5)) (p7 hl dk 1 _)) (bx rfl) (a9m (b:=[en]) ?_),.inl ?_⟩
   ·rw[wl,ec]
    cases done with
    |nil=>simp;omega
    |cons q done=>simp;omega
   ·have tr:=turn ih hl he (a:=a) (w:=w) (x8:=x8) (x9:=x9) kp (by rw[a9]at pl;omega) dk
    refine⟨_,_,r.length,tr,by simp,done++[p],r,_,_,_,by simp,rfl,rfl,rfl,?_,?_⟩
    ·rw[<-cv,<-cv,dk]
     cases done with
     |nil=>simp[wl]
     |cons q done=>simp[wl]
    ·rw[<-lk]
     cases done with
     |nil=>simp[wl];omega
     |cons q done=>simp[wl];omega
end
theorem ait{n d:Nat}(ih:At n d):At (n+2) (d+1):=by
 intro s T post a e k hl dr he
 obtain⟨e,rfl⟩:∃e',e=e'+1:=⟨e-1,by omega⟩
 have he:d<=e:=by omega
 refine Pu.of rfl (K20.ar3 (bu _) (dj _) (dj _)) (r:=.ok (rd s (a+(wr s).length)) []) ?_ (j5 (a1j _ _ _) (by simp)) (a1j _ _ _)
 rw[di,fu];show toR (za (uo (n+1)) v5 (nq (n+1)) (qm (n+1)) [some (.str (S T)),some (iz a),some (iz (e+1)),none] [])=_;unfold za;refine eti (tvc rfl (aij (by omega))) ?_
 cases s with
 |one s =>
  have p:=p7 hl dr 1 [];rw[wr]at dr ⊢;have f:=ang hl k.2.2.1 dr;refine ets (a1p (bx rfl) (vz (bx rfl)) (vz (pq rfl m5)) p) ?_;refine ah toR (mq (av (ifT (tvc rfl (a1o (b:=[60]) (by rw[wr];rfl)))) ?_))
  exact ig (qi (bx rfl) (bx rfl) (f _))
 |row ps =>
  rw[wr]at dr;have p:=p7 hl dr 1 [];have f:=a3d ih hl he (ps:=ps) (w := "row") (en:=41) (post:=post) (.inl rfl) (.inl rfl) 40 k.2 k.1 (by rw[dr];simp)
  rw[rd,sd,jl,show a+(wr (.row ps)).length=a+1+(wl false ps).length+1 by rw[wr];simp;omega]
  refine ets (a1p (bx rfl) (vz (bx rfl)) (vz (pq rfl m5)) p) ?_;refine eti (tvc rfl (xj (b:=[60]) (by simp))) ?_
  refine ah toR (mq (av (ifT (tvc rfl (a1o (b:=[40]) rfl))) ?_));exact ig (ain (bx rfl) (bx rfl) (bx rfl) (qi ckk ckk a5f) (f _))
 |eit ps =>
  rw[wr]at dr;have p:=p7 hl dr 1 [];have f:=a3d ih hl he (ps:=ps) (w := "either") (en:=125) (post:=post) (.inr rfl) (.inr rfl) 123 k.2.2 k.2.1 (by rw[dr];simp)
  rw[rd,sd,jl,show a+(wr (.eit ps)).length=a+1+(wl false ps).length+1 by rw[wr];simp;omega]
  refine ets (a1p (bx rfl) (vz (bx rfl)) (vz (pq rfl m5)) p) ?_;refine eti (tvc rfl (xj (b:=[60]) (by simp))) ?_
  refine eti (tvc rfl (xj (b:=[40]) (by simp))) ?_
  refine ah toR (mq (av (ifT (tvc rfl (a1o (b:=[123]) rfl))) ?_));exact ig (ain (bx rfl) (bx rfl) (bx rfl) (qi ckk ckk a5f) (f _))
 |many q =>
  rw[wr]at dr;have p:=p7 hl dr 1 [];have f:=ais ih hl he (q:=q) (post:=post) k (by rw[dr];rfl)
  refine ets (a1p (bx rfl) (vz (bx rfl)) (vz (pq rfl m5)) p) ?_;refine eti (tvc rfl (xj (b:=[60]) (by simp))) ?_
  refine eti (tvc rfl (xj (b:=[40]) (by simp))) ?_
  refine eti (tvc rfl (xj (b:=[123]) (by simp))) ?_
  refine ah toR (mq (av (ifT (tvc rfl (a1o (b:=[42]) rfl))) ?_));exact ig (aem (bx rfl) (bx rfl) (bx rfl) (f _))
 |tim q lo hi =>
  obtain⟨k1,k2,k3⟩:=k;rw[wr]at dr;have p:=p7 hl dr 1 [];have f:=aes ih hl he (q:=q) (lo:=lo) (hi:=hi) (post:=post) (by omega) k2 k3 (by rw[dr];rfl)
  refine ets (a1p (bx rfl) (vz (bx rfl)) (vz (pq rfl m5)) p) ?_;refine eti (tvc rfl (xj (b:=[60]) (by simp;omega))) ?_
  refine eti (tvc rfl (xj (b:=[40]) (by simp;omega))) ?_
  refine eti (tvc rfl (xj (b:=[123]) (by simp;omega))) ?_
  refine eti (tvc rfl (xj (b:=[42]) (by simp;omega))) ?_
  exact ah toR (ig (aem (bx rfl) (bx rfl) (bx rfl) (f _)))
theorem anh:∀(d n:Nat),2*d<=n->At n d
 |0,_,_=>λ_ _ _ _ _ k=>k.elim
 |d+1,n,h=>by
  obtain⟨m,rfl⟩:∃m,n=m+2:=⟨n-2,by omega⟩
  exact ait (anh d m (by omega))
noncomputable def kj:SF:=jr (uz qj (di 10)) 4
theorem aiu{s:Sh}(k:Ok 5 s)(c:cn s<=24):Pu kj 1 [.str (S (wr s))] (sd s):=by
 have l:=a8q k;have f:=anh 5 10 (by decide) s (wr s) [] 0 5 k (by omega) (by simp) (ai _)
 have g:=a7r k c;rw[Nat.zero_add]at f;refine Pu.of rfl (K20.ar1 (bu _)) (r:=.ok (sd s) []) ?_ (j5 (lw s) (by simp)) (lw s)
 unfold kj;rw[fu];show toR (uz qj (di 10) [some (.str (S (wr s))),none,none,none] [])=_;unfold uz;have i:j9 [.str (S (wr s)),.ty "str"] []=.ok (.bl true) []:=by simp[j9,a6f,tyD,a4t]
 refine ets (EVT.at9 (vy (qi (bx rfl) ckk i) (n6 _)) (aem (bx rfl) ckk ckk (f _))) ?_;refine eti (tvc rfl ack) ?_;refine etr (a0p (a9l (bx rfl) rfl)) ?_;refine eti (orF (t2s (bx rfl) (uq (bx rfl) (a9k (du (by omega)))) (aep rfl)) (aii (vy (uq (bx rfl) (g _)) (n6 _)))) ?_
 exact ah toR (ig (bx rfl))
end K78
namespace K76
open L2 MI AT HND
noncomputable def jt:SF:=jr uh 1
theorem a1w:Pu jt 0 [] (.str (S sig)):=HND.a1w
def ard:Str := "<>\\\nn (){}*-:012345t"
noncomputable def j8:SF:=jr (vp jt au) 3
theorem a1x:∀c∈sig,Good c:=by decide +kernel
theorem aet:∀c∈ard.cps.toList,Good c:=by decide +kernel
theorem aiv{o:O}{N:Nat}{m:Int}(P:Hand o N)(hN:N<=999999000):∃c o',Good c/\Dr j8 2 [.int m] o (.str (S [c])) o'/\Hand o' (N+1):=by
 have one:∀(l:List Nat),1<=l.length->l.length<=100->(∀c∈l,Good c)->∃c o',Good c/\Hand o' (N+1)/\∀τ:Sd,τ[0]? = some (some (.ref 0))->τ[2]? = some (some (.str (S l)))->jw (s2 gIx (sV 2) (sA (jd false 2 au) (aj (sV 0) (aj (sA wg (aj (sV 2) dh)) dh)))) τ [o]=.rt (.str (S [c])) [o']:=λl l1 l2 gl=>by
  obtain⟨x,o',e1,x0,x1,P1⟩:=v9 (m:=(l.length:Nat)) P (by omega) (by omega) (by omega)
  obtain⟨j,rfl⟩:=bg x0;have hj:j<l.length:=by omega
  have c1:jd false 2 au [.ref 0,.int (l.length:Nat)] [o]=.ok (.int (j:Nat)) [o']:=e1 0 _ rfl;exact⟨l[j],o',gl _ (cF hj),P1,λτ h0 h2=>ig (qu (bx h2) (qi (bx h0) (uq (bx h2) (a9k (du (by omega)))) c1) (aj6 (du (by omega)) (ae hj)))⟩
 have fin:∀c o',Good c->Hand o' (N+1)->j8 [.ref 0,.int m] [o]=.ok (.str (S [c])) [o']->∃c o',Good c/\Dr j8 2 [.int m] o (.str (S [c])) o'/\Hand o' (N+1):=λc o' gc P1 e =>
  ⟨c,o',gc,Dr.of rfl (by intro x hx;rw[aL]at hx;subst hx;exact dj _) P.clo e (j5 (bu _) (by simpa using a05 (by omega) P1.clo)) (bu _) P1.clo,P1⟩
 have e0:j8 [.ref 0,.int m] [o]=toR (vp jt au [some (.ref 0),some (.int m),none] [o]):=by
  unfold j8;rw[fu];rfl
 have sl:=ail
 by_cases hm:m=0
 ·obtain⟨c,o',gc,P1,e⟩:=one ard.cps.toList (by decide +kernel) (by decide +kernel) aet
  refine fin c o' gc P1 ?_;rw[e0];unfold vp;refine ets (apd (a1w _)) ?_;refine etr (a0p (av (ifT (tvc rfl (a06 hm))) (aih ckk))) ?_;exact ah toR (e _ rfl (by rw[abl];rfl))
 ·obtain⟨c,o',gc,P1,e⟩:=one sig (by omega) (by omega) a1x
  refine fin c o' gc P1 ?_;rw[e0];unfold vp;refine ets (apd (a1w _)) ?_;refine eti (tvc rfl (a2w hm)) ?_;exact ah toR (e _ rfl rfl)
end K76
namespace K78
open L2 MI AT HND EVX
open K76 (a1p vz)
theorem agi{m:Int}{o o1:O}{r:Int}(e:Dr au 2 [.int m] o (.int r) o1)(aG:Hd):jd false 2 au [.ref 0,.int m] (o::aG)=.ok (.int r) (o1::aG):=EVT.ao5 e
theorem agj{f:SE}{τ:Sd}{h h1:Hd}{n:Nat}(e:f τ h=.ok (iz n) h1)(z:n<=1000000):sRg a0v (aj f dh) τ h=.ok ⟨(List.range n).map λi:Nat=>D.int (i:Nat),λ_=>True⟩ h1:=by
 unfold sRg;rw[arg1 e,bw];exact ag2 _ (du z)
noncomputable def j7:SF:=jr (v4 K76.j8 au) 5
theorem acl{o:O}{N:Nat}(P:Hand o N)(hN:N<=999000000):∃t o',1<=t.length/\t.length<=6/\t.Nodup/\(∀c∈t,K76.Good c)/\Dr j7 1 [] o (.str (S t)) o'/\Hand o' (N+10):=by
 obtain⟨x,o1,e1,x0,x1,P1⟩:=v9 (m:=2) P (by omega) (by omega) (by omega)
 obtain⟨y,o2,e2,y0,y1,P2⟩:=v9 (m:=6) P1 (by omega) (by omega) (by omega)
 obtain⟨y,rfl⟩:=bg y0;have lp:=a1s (g:=kN 3) (b:=oh K76.j8 au) (λi:Nat=>D.int (i:Nat))
  (λpre τ hh=>∃(t:List Nat) (u:O) (a b:Option D),τ=[some (.ref 0),some (.int x),some (.str (S t)),a,b]/\hh=[u]/\Hand u (N+2+pre.length)/\t.Nodup/\(∀c∈t,K76.Good c)/\t.length<=pre.length/\(1<=pre.length->1<=t.length))
  (List.range (1+y)) [some (.ref 0),some (.int x),some (.str ""),none,none] [o2] ?_ ⟨[],o2,none,none,rfl,rfl,P2,dD,by simp,by simp,by simp⟩
 ·obtain⟨τ',h',e,t,u,a,b,rfl,rfl,Pu,nd,g,l1,l2⟩:=lp;rw[dB]at Pu l1 l2;refine⟨t,u,l2 (by omega),by omega,nd,g,Dr.of rfl (by simp) P.clo (r:=.ok (.str (S t)) [u]) ?_ (j5 (bu _) (by simpa using a05 (by omega) Pu.clo)) (bu _) Pu.clo,Pu.up (by omega)⟩
  unfold j7;rw[fu];show toR (v4 K76.j8 au [some (.ref 0),none,none,none,none] [o])=_;unfold v4;refine ets (qi (bx rfl) ckk (agi e1 _)) ?_;refine etr (um ckk) ?_;have rg:sRg a0v (aj (s2 gk (sI 1) (sA (jd false 2 au) (aj (sV 0) (aj (sI 6) dh)))) dh) [some (.ref 0),some (.int x),some (.str ""),none,none] [o1]=.ok ⟨(List.range (1+y)).map λi:Nat=>D.int (i:Nat),λ_=>True⟩ [o2]:=agj (qu ckk (qi (bx rfl) ckk (agi e2 _)) (agf (a:=1) y)) (by omega)
  refine etr (aeo rg) ?_;refine av (ah (λz=>toR (thn z _)) e) ?_;rw[a2r];exact ah toR (ig (bx rfl))
 ·rintro pre i post τ hh all ⟨t,u,a,b,rfl,rfl,Pu,nd,g,l1,l2⟩
  have hl:pre.length<1+y:=by
   have:=ah List.length all
   simp at this;omega
  obtain⟨c,u',gc,e5,P5⟩:=K76.aiv (m:=x) Pu (by omega)
  have c5:jd false 2 K76.j8 [.ref 0,.int x] [u]=.ok (.str (S [c])) [u']:=e5 0 _ rfl;have P6:Hand u' (N+2+(pre++[i]).length):=by rw[a9,aM];exact P5
  by_cases hc:c∈t
  ·have itt:gIn true (.str (S [c])) (.str (S t)) [u']=.ok (.bl false) [u']:=(K20.ara true c t _).trans (by simp[hc])
   refine⟨_,_,rfl,[some (.ref 0),some (.int x),some (.str (S t)),some (.int (i:Nat)),some (.str (S [c]))],[u'],?_,t,u',_,_,rfl,rfl,P6,nd,g,by simp;omega,λ_=>by have:=List.length_pos_of_mem hc;omega⟩
   unfold oh;refine av (um (qi (bx rfl) (bx rfl) c5)) ?_;exact ifF (t2s (bx rfl) (bx rfl) itt)
  ·have itt:gIn true (.str (S [c])) (.str (S t)) [u']=.ok (.bl true) [u']:=(K20.ara true c t _).trans (by simp[hc])
   refine⟨_,_,rfl,[some (.ref 0),some (.int x),some (.str (S (t++[c]))),some (.int (i:Nat)),some (.str (S [c]))],[u'],?_,t++[c],u',_,_,rfl,rfl,P6,?_,?_,by simp;omega,λ_=>by simp⟩
   ·unfold oh;refine av (um (qi (bx rfl) (bx rfl) c5)) ?_;refine av (ifT (t2s (bx rfl) (bx rfl) itt)) ?_;exact aih (qu (bx rfl) (bx rfl) (qg (du (by simp;omega))))
   ·rw[bq];exact⟨nd,by simp,λa ha b hb z=>by rw[aL]at hb;subst hb;subst z;exact hc ha⟩
   ·intro q hq
    rcases bU.mp hq with h|h
    ·exact g q h
    ·rw[aL]at h;subst h;exact gc
noncomputable def jo:SF:=jr (a0o au) 6
theorem acn{t:List Nat}(t1:1<=t.length)(t6:t.length<=6)(nd:t.Nodup)(g:∀c∈t,K76.Good c){o:O}{N:Nat}(P:Hand o N)(hN:N<=999000000):∃s o',Ok 1 (.one s)/\Dr jo 2 [.str (S t)] o (sd (.one s)) o'/\Hand o' (N+10):=by
 obtain⟨y,o2,e2,y0,y1,P2⟩:=v9 (m:=(t.length:Nat)) P (by omega) (by omega) (by omega)
 obtain⟨y,rfl⟩:=bg y0;have lp:=a1s (g:=kN 4) (b:=yp au) (λi:Nat=>D.int (i:Nat))
  (λpre τ hh=>∃(s r:List Nat) (u:O) (a b:Option D),τ=[some (.ref 0),some (.str (S t)),some (.str (S r)),some (.str (S s)),a,b]/\hh=[u]/\Hand u (N+1+pre.length)/\(s++r).Perm t/\s.length=pre.length)
  (List.range (1+y)) [some (.ref 0),some (.str (S t)),some (.str (S t)),some (.str ""),none,none] [o2] ?_ ⟨[],t,o2,none,none,rfl,rfl,P2,by simp,rfl⟩
 ·obtain⟨τ',h',e,s,r,u,a,b,rfl,rfl,Pu,pm,sl⟩:=lp;rw[dB]at Pu sl;have sn:(s++r).Nodup:=pm.symm.nodup nd;refine⟨s,u,⟨by omega,by omega,λc hc=>g c (pm.subset (dH _ hc)),(bq.mp sn).1⟩,Dr.of rfl (by simp[bu]) P.clo (r:=.ok (sd (.one s)) [u]) ?_ (j5 (a6m (by omega) (lw _)) (by simpa using a05 (by omega) Pu.clo)) (lw _) Pu.clo,Pu.up (by omega)⟩
  unfold jo;rw[fu];show toR (a0o au [some (.ref 0),some (.str (S t)),none,none,none,none] [o])=_;unfold a0o;refine ets (bx rfl) ?_;refine etr (um ckk) ?_;have rg:sRg a0v (aj (s2 gk (sI 1) (sA (jd false 2 au) (aj (sV 0) (aj (sA wg (aj (sV 1) dh)) dh)))) dh) [some (.ref 0),some (.str (S t)),some (.str (S t)),some (.str ""),none,none] [o]=.ok ⟨(List.range (1+y)).map λi:Nat=>D.int (i:Nat),λ_=>True⟩ [o2]:=agj (qu ckk (qi (bx rfl) (uq (bx rfl) (a9k (du (by omega)))) (agi e2 _)) (agf (a:=1) y)) (by omega)
  refine etr (aeo rg) ?_;refine av (ah (λz=>toR (thn z _)) e) ?_;rw[a2r,sd];exact ah toR (ig (qi ckk (bx rfl) a5f))
 ·rintro pre i post τ hh all ⟨s,r,u,a,b,rfl,rfl,Pu,pm,sl⟩
  have hl:pre.length<1+y:=by
   have:=ah List.length all
   simp at this;omega
  have rl:=pm.length_eq;rw[a9]at rl;obtain⟨j,u',e5,j0,j1,P5⟩:=v9 (m:=(r.length:Nat)) Pu (by omega) (by omega) (by omega)
  obtain⟨j,rfl⟩:=bg j0;have hj:j<r.length:=by omega
  refine⟨_,_,rfl,[some (.ref 0),some (.str (S t)),some (.str (S (r.take j++r.drop (j+1)))),some (.str (S (s++[r[j]]))),some (.int (i:Nat)),some (.int (j:Nat))],[u'],?_,s++[r[j]],r.take j++r.drop (j+1),u',_,_,rfl,rfl,by rw[a9,aM];exact P5,?_,by simp[sl]⟩
  ·unfold yp;refine av (um (qi (bx rfl) (uq (bx rfl) (a9k (du (by omega)))) (agi e5 _))) ?_
   refine av (um (qu (bx rfl) (qu (bx rfl) (bx rfl) (aj6 (du (by omega)) (ae hj))) (qg (du (by simp;omega))))) ?_
   exact aih (qu (a1p (bx rfl) EVT.ao4 (vz (bx rfl)) (ar0 j (du (by omega)))) (a1p (bx rfl) (vz (pq rfl (agf 1))) EVT.ao4 (ams (j+1) (du (by omega)))) (qg (du (by simp;omega))))
  ·refine List.Perm.trans ?_ pm;rw[cT];refine List.Perm.append_left s ?_;have:r.take j++(r[j]::r.drop (j+1))=r:=by rw[List.getElem_cons_drop hj,List.take_append_drop]
   show(r[j]::(r.take j++r.drop (j+1))).Perm r;have p:=(List.perm_middle (a:=r[j]) (l₁:=r.take j) (l₂:=r.drop (j+1))).symm
   rwa[this]at p
def Dw(F:SF)(t:List Nat)(e:Nat)(o p:O)(d:D)(o' p':O):Prop:=∀i j h,i≠j->h[i]? = some o->h[j]? = some p->jd false 4 F [.ref i,.str (S t),.ref j,iz e] h=.ok d ((h.set i o').set j p')
theorem Dw.of{F:SF}{t:List Nat}{e:Nat}{o p o' p':O}{d:D}{r:R D}(co:v6 0 o)(cp:v6 0 p)(q:F [.ref 0,.str (S t),.ref 1,iz e] [o,p]=r)(z:a5j 2 r=.ok d [o',p'])(c:clo 0 d)(co':v6 0 o')(cp':v6 0 p'):Dw F t e o p d o' p':=λi j h ne hi hj=>by
 have e1:zp [.ref i,.str (S t),.ref j,iz e]=[i,j]:=rfl;have e2:xx 0 [.ref i,.str (S t),.ref j,iz e]=[.ref 0,.str (S t),.ref 1,iz e]:=rfl;unfold jd;rw[aJ (by simp)]
 unfold aj2;rw[e1];simp only[yc,hi,hj,af,aK,bZ,dZ,Nat.zero_add,Nat.reduceAdd];have all:∀x∈([.ref i,.str (S t),.ref j,iz e]:List D),clo 0 x\/isRef x:=λx hx=>by
  simp only[aO,aU,bY]at hx
  rcases hx with rfl|rfl|rfl|rfl
  ·exact .inr ⟨i,rfl⟩
  ·exact .inl (bu _)
  ·exact .inr ⟨j,rfl⟩
  ·exact .inl (dj _)
 rw[aJ ⟨by simp[ne],all,λu hu=>by simp only[aO,aU,bY]at hu;rcases hu with rfl|rfl;exact co;exact cp⟩,e2,q,z]
 simp[c,co',cp',o9]
theorem DwE{F:SF}{t:List Nat}{e:Nat}{o p o' p':O}{d:D}{h:Hd}(q:Dw F t e o p d o' p'):jd false 4 F [.ref 0,.str (S t),.ref 1,iz e] (o::p::h)=.ok d (o'::p'::h):=q 0 1 (o::p::h) (by decide) rfl rfl
def bnd:Nat->Nat
 |0=>200
 |d+1=>7*bnd d
theorem agk:∀d,200<=bnd d
 |0=>by decide
 |d+1=>by have:=agk d;rw[bnd];omega
noncomputable def fj:Nat->SF
 |0=>λ_ _=>.no
 |n+1=>jr (zf jo au (fj n)) 8
abbrev pu(x:Nat):O:=.lst [iz x]
theorem a8t(x:Nat):v6 0 (pu x):=bc (dj _) gw
theorem aco{o p:O}(c:v6 0 o)(c':v6 0 p):∀u∈[o,p],v6 0 u:=λu hu=>by
 simp only[aO,aU,bY]at hu
 rcases hu with rfl|rfl
 ·exact c
 ·exact c'
theorem atb{d:D}{o p:O}{h:Hd}(c:MI.clo 0 d)(co:v6 0 o)(cp:v6 0 p):a5j 2 (.ok d (o::p::h))=.ok d [o,p]:=j5 (a6m (by omega) c) (by
 intro u hu
 simp only[List.take_succ_cons,eQ]at hu;exact a05 (by omega) (aco co cp u hu))
theorem atc{G:D->D->Hd->R D}{f1 f2 f3:SE}{τ:Sd}{h h1 h2 h3 h4 h5 h6:Hd}{o i x y z:D}(e1:f1 τ h=.ok o h1)(e2:f2 τ h1=.ok i h2)(e3:aj3 o i h2=.ok x h3)(e4:f3 τ h3=.ok y h4)(e5:G x y h4=.ok z h5)(e6:put o i z h5=some h6):a6k G f1 f2 f3 τ h=.nx τ h6:=by
 unfold a6k;rw[e1,a1a,e2,a1a,e3,a1a,e4,a1a,e5,a1a,e6]
def Wd(t:List Nat)(n d:Nat):Prop:=∀(o:O) (N x:Nat),Hand o N->N+bnd d<=900000000->x<=23->∃s o' x',Ok d s/\Dw (fj n) t d o (pu x) (sd s) o' (pu x')/\Hand o' (N+bnd d)/\cn s+x'<=1+x
def Res(d N x:Nat)(r:R D):Prop:=∃s o' x',r=.ok (sd s) [o',pu x']/\Ok d s/\Hand o' N/\cn s+x'<=1+x
theorem Res.trq{d N x:Nat}{r r':R D}(e:r=r')(q:Res d N x r'):Res d N x r:=e ▸ q
theorem Res.toq{t:List Nat}{d N x n:Nat}{o:O}{r:R D}(co:v6 0 o)(e:fj n [.ref 0,.str (S t),.ref 1,iz d] [o,pu x]=r)(q:Res d N x r):∃s o' x',Ok d s/\Dw (fj n) t d o (pu x) (sd s) o' (pu x')/\Hand o' N/\cn s+x'<=1+x:=by
 obtain⟨s,o',x',e',k,P,l⟩:=q;exact⟨s,o',x',k,Dw.of co (a8t _) (e.trans e') (atb (lw s) P.clo (a8t _)) (lw s) P.clo (a8t _),P,l⟩
theorem aiw{t:List Nat}{n d:Nat}{o:O}{x:Nat}:fj (n+1) [.ref 0,.str (S t),.ref 1,iz d] [o,pu x]=toR (zf jo au (fj n) [some (.ref 0),some (.str (S t)),some (.ref 1),some (iz d),none,none,none,none] [o,pu x]):=by
 rw[fj,fu];rfl
theorem ixp{o:O}{v:D}{h:Hd}:gIx (.ref 1) (.int 0) (o::.lst [v]::h)=.ok v (o::.lst [v]::h):=rfl
theorem a6x{t:List Nat}(t1:1<=t.length)(t6:t.length<=6)(nd:t.Nodup)(g:∀c∈t,K76.Good c){n d:Nat}(ih:0<d->Wd t n d):Wd t (n+1) (d+1):=by
 intro o N x P hN hx
 have bl:=agk d;have be:bnd (d+1)=7*bnd d:=rfl;refine Res.toq P.clo aiw ?_;unfold zf;obtain⟨r,o1,e1,r0,r1,P1⟩:=v9 (m:=8) P (by omega) (by omega) (by omega)
 refine Res.trq (ah toR (um (qi (bx rfl) ckk (agi e1 _)))) ?_
 by_cases h1:d=0\/x=0\/r<2
 ·have c:sOr (sT (s2 hEq (sV 3) (sI 1))) (sOr (sT (s2 hEq (s2 gIx (sV 2) (sI 0)) (sI 0))) (sT (s2 gLt (sV 4) (sI 2)))) [some (.ref 0),some (.str (S t)),some (.ref 1),some (iz (d+1)),some (.int r),none,none,none] [o1,pu x]=.ok true [o1,pu x]:=by
   by_cases a:d=0
   ·exact orT (tvc rfl (a06 (by omega)))
   ·refine orF (tvc rfl (a2w (by omega))) ?_
    by_cases b:x=0
    ·exact orT (t2s (pq rfl ixp) ckk (a06 (by omega)))
    ·exact orF (t2s (pq rfl ixp) ckk (a2w (by omega))) (tvc rfl (ao0 (by omega)))
  by_cases hr:r=0
  ·refine⟨.row [],o1,x,ah toR (mq (av (ifT c) ?_)),⟨by simp,by simp⟩,P1.up (by omega),by simp[cn,cns]⟩
   refine mq (av (ifT (tvc rfl (a06 hr))) ?_);rw[sd,sds];exact ig (qi ckk (apd PAP.aim) a5f)
  ·obtain⟨s,o2,k,e2,P2⟩:=acn t1 t6 nd g P1 (by omega)
   refine⟨.one s,o2,x,ah toR (mq (av (ifT c) ?_)),k,P2.up (by omega),by simp[cn]⟩
   refine av (ifN (tvc rfl (a2w hr))) ?_;exact ig (qi (bx rfl) (bx rfl) (EVT.ao5 e2))
 ·have d0:0<d:=by omega
  have x0:0<x:=by omega
  have r2:2<=r:=by omega
  have ih:=ih d0;refine Res.trq (ah toR (ifN (orF (tvc rfl (a2w (by omega))) (orF (t2s (pq rfl ixp) ckk (a2w (by omega))) (tvc rfl (aij (by omega))))))) ?_
  refine Res.trq (ah toR (um ckk)) ?_;obtain⟨m,o2,m1,m6,mx,mr,P2,st⟩:∃(m:Nat) (o2:O),1<=m/\m<=6/\m<=x/\(r<=3->m=1)/\Hand o2 (N+2)/\∀g':SS,il (sIf (sT (s2 gGt (sV 4) (sI 3))) (o8 5 (sA a7d (aj (s2 gIx (sV 2) (sI 0)) (aj (s2 gk (sI 1) (sA (jd false 2 au) (aj (sV 0) (aj (sI 6) dh)))) dh)))) sNx) g' [some (.ref 0),some (.str (S t)),some (.ref 1),some (iz (d+1)),some (.int r),some (.int 1),none,none] [o1,pu x]=g' [some (.ref 0),some (.str (S t)),some (.ref 1),some (iz (d+1)),some (.int r),some (iz m),none,none] [o2,pu x]:=by
   by_cases h3:r<=3
   ·exact⟨1,o1,by omega,by omega,by omega,λ_=>rfl,P1.up (by omega),λg'=>ifN (tvc rfl (apf (by omega)))⟩
   ·obtain⟨z,o2,e2,z0,z1,P2⟩:=v9 (m:=6) P1 (by omega) (by omega) (by omega)
    have mn:a7d [iz x,.int (1+z)] [o2,pu x]=.ok (iz (if 1+z<(x:Int) then 1+z else (x:Int)).toNat) [o2,pu x]:=by
     show R.ok (D.int (if 1+z<(x:Int) then 1+z else (x:Int))) _=_
     rw[show iz (if 1+z<(x:Int) then 1+z else (x:Int)).toNat=D.int (if 1+z<(x:Int) then 1+z else (x:Int)) from ah D.int (by split<;>omega)]
    refine⟨(if 1+z<(x:Int) then 1+z else (x:Int)).toNat,o2,by split<;>omega,by split<;>omega,by split<;>omega,λq=>absurd q h3,P2,λg'=>a0p ?_⟩
    refine av (ifT (tvc rfl (anz (by omega)))) ?_
    exact aih (qi (pq rfl ixp) (qu ckk (qi (bx rfl) ckk (agi e2 _)) m5) mn)
  refine Res.trq (ah toR (st _)) ?_
  clear st
  have pt:put (.ref 1) (.int 0) (iz (x-m)) [o2,pu x]=some [o2,pu (x-m)]:=rfl;refine Res.trq (ah toR (a0p (atc (bx rfl) ckk rfl (bx rfl) (air mx) pt))) ?_;have mp:=a8i (f:=a3h MI.t1 (ou jo au (fj n)) [some (.ref 0),some (.str (S t)),some (.ref 1),some (iz (d+1))]) iz
   (λpre ys h=>∃(ss:List Sh) (o':O) (x':Nat),ys=ss.map sd/\h=[o',pu x']/\Hand o' (N+2+pre.length*bnd d)/\(∀s∈ss,Ok d s)/\ss.length=pre.length/\cns ss+x'<=pre.length+(x-m))
   (List.range m) [] [] [o2,pu (x-m)] ?_ ⟨[],o2,x-m,rfl,rfl,by simpa using P2,by simp,rfl,by simp[cns]⟩
  ·obtain⟨zs,h',mp,ss,o5,x5,zq,rfl,P5,ks,sl,xl⟩:=mp;simp only[cM]at zq;subst zq;simp only[cM,dB]at P5 sl xl;have kb:m*bnd d<=6*bnd d:=Nat.mul_le_mul_right _ m6;have zz:sZ (vg (sRg a0v (aj (sV 5) dh)) MI.t1 (ou jo au (fj n)) [0,1,2,3]) [some (.ref 0),some (.str (S t)),some (.ref 1),some (iz (d+1)),some (.int r),some (iz m),none,none] [o2,pu (x-m)]=.ok (.rol (ss.map sd)) [o5,pu x5]:=by
    refine EVT.aj9 ?_ rfl (jl ss ▸ vf ss) (aco P5.clo (a8t _));unfold vg;rw[aig (n:=m) (bx rfl) (du (by omega)),bw]
    dsimp only;rw[aJ (du (by simp;omega))]
    show R.bind (mapR (λ_=>True) (a3h MI.t1 (ou jo au (fj n)) [some (.ref 0),some (.str (S t)),some (.ref 1),some (iz (d+1))]) ((List.range m).map iz) [o2,pu (x-m)]) _=_;rw[mp];rfl
   have tr:∀h:Hd,uw [.rol (ss.map sd)] h=.ok (.tup (ss.map sd)) h:=λ_=>rfl;refine Res.trq (ah toR (um (uq zz (tr _)))) ?_
   by_cases h2:r=2
   ·obtain⟨s,rfl⟩:∃s,ss=[s]:=List.length_eq_one_iff.mp (by rw[sl];exact mr (by omega))
    refine⟨.many s,o5,x5,ah toR (mq (av (ifT (tvc rfl (a06 h2))) ?_)),ks s (by simp),P5.up (by omega),by simp only[cn,cns] at *;omega⟩
    rw[show sd (.many s)=.tup [.str "many",sd s] by simp only[sd]]
    exact ig (qi ckk (pq rfl ix0) a5f)
   refine Res.trq (ah toR (ifN (tvc rfl (a2w h2)))) ?_
   by_cases h3:r=3
   ·obtain⟨s,rfl⟩:∃s,ss=[s]:=List.length_eq_one_iff.mp (by rw[sl];exact mr (by omega))
    obtain⟨hi,o6,e6,b0,b1,P6⟩:=v9 (m:=5) P5 (by omega) (by omega) (by omega)
    obtain⟨lo,o7,e7,a0,a1,P7⟩:=v9 (m:=hi+1) P6 (by omega) (by omega) (by omega)
    obtain⟨hi,rfl⟩:=bg b0;obtain⟨lo,rfl⟩:=bg a0;refine⟨.tim s lo hi,o7,x5,ah toR (mq (av (ifT (tvc rfl (a06 h3))) ?_)),⟨by omega,by omega,ks s (by simp)⟩,P7.up (by omega),by simp only[cn,cns] at *;omega⟩
    refine av (um (qi (bx rfl) ckk (agi e6 _))) ?_;rw[show sd (.tim s lo hi)=.tup [.str "times",sd s,iz lo,iz hi] by simp only[sd]]
    exact ig (ain ckk (pq rfl ix0) (qi (bx rfl) (pq rfl m5) (agi e7 _)) (bx rfl) arc)
   refine Res.trq (ah toR (ifN (tvc rfl (a2w h3)))) ?_
   by_cases h6:r<6
   ·refine⟨.row ss,o5,x5,ah toR (mq (av (ifT (tvc rfl (ao0 h6))) ?_)),⟨by omega,ks⟩,P5.up (by omega),by simp only[cn] at *;omega⟩
    rw[sd,jl];exact ig (qi ckk (bx rfl) a5f)
   ·refine⟨.eit ss,o5,x5,av (ah toR (ifN (tvc rfl (aij h6)))) ?_,⟨by omega,by omega,ks⟩,P5.up (by omega),by simp only[cn] at *;omega⟩
    rw[sd,jl];exact ah toR (ig (qi ckk (bx rfl) a5f))
  ·rintro pre i post ys h al ⟨ss,o',x',rfl,rfl,P',ks,sl,xl⟩
   have hl:pre.length<m:=by
    have:=ah List.length al
    simp at this;omega
   have kb:(pre.length+1)*bnd d<=6*bnd d:=Nat.mul_le_mul_right _ (by omega)
   rw[Nat.succ_mul]at kb;obtain⟨s,o5,x5,k5,e5,P5,w0⟩:=ih o' _ x' P' (by omega) (by omega)
   refine⟨sd s,[o5,pu x5],?_,ss++[s],o5,x5,by simp,rfl,?_,?_,by simp[sl],?_⟩
   ·rw[a2v];unfold ou;exact ain (bx rfl) (bx rfl) (bx rfl) (pq rfl (air (a:=d+1) (b:=1) (by omega))) (DwE e5)
   ·rw[a9,aM,Nat.succ_mul];exact P5.up (by omega)
   ·intro u hu
    rcases bU.mp hu with hu|hu
    ·exact ks u hu
    ·rw[aL.mp hu];exact k5
   ·rw[a5h,cns,cns,a9,aM];omega
theorem acp{t:List Nat}(t1:1<=t.length)(t6:t.length<=6)(nd:t.Nodup)(g:∀c∈t,K76.Good c):∀(d n:Nat),d<=n->Wd t (n+1) (d+1)
 |0,n,_=>a6x t1 t6 nd g λz=>absurd z (by omega)
 |d+1,0,h=>absurd h (by omega)
 |d+1,n+1,h=>a6x t1 t6 nd g λ_=>acp t1 t6 nd g d n (by omega)
theorem acq:∀{n:Nat} {s:Sh},Ok n s->Ok (n+1) s
 |0,_,h=>h.elim
 |n+1,.one s,h=>h
 |n+1,.row ps,h=>⟨h.1,λp hp=>acq (h.2 p hp)⟩
 |n+1,.eit ps,h=>⟨h.1,h.2.1,λp hp=>acq (h.2.2 p hp)⟩
 |n+1,.many p,h=>acq (n:=n) (s:=p) h
 |n+1,.tim p lo hi,h=>⟨h.1,h.2.1,acq h.2.2⟩
theorem apw{m:Nat}{s:Sh}:∀{n:Nat},n<=m->Ok n s->Ok m s:=by
 induction m with
 |zero=>intro n h k;cases eU.mp h;exact k
 |succ m ih =>
  intro n h k
  by_cases q:n=m+1
  ·subst q;exact k
  ·exact acq (ih (by omega) k)
end K78
namespace K78
open L2 MI AT HND EVX
noncomputable def gq:Nat->SF
 |0=>λ_ _=>.no
 |n+1=>jr (wz (gq n)) 2
def Pl:Nat->D->Prop
 |0,_=>False
 |n+1,d=>match d with
  |.str _=>True
  |.int _=>True
  |.tup xs=>xs.length<=16/\clos 0 xs/\∀x∈xs,Pl n x
  |_=>False
theorem Pl.clo{n:Nat}{d:D}(p:Pl n d):MI.clo 0 d:=by
 cases n with
 |zero=>exact p.elim
 |succ n =>
  cases d with
  |str x=>exact bu _
  |int i=>exact dj _
  |tup xs=>exact jg p.2.1
  |_=>exact p.elim
theorem aeu{f g:SE}{τ:Sd}{xs:List D}(e1:f τ []=.ok (.tup xs) [])(e2:g τ []=.ok (.tup xs) []):aj0 f g τ []=.ok ⟨xs.map λx=>.tup [x,x],λ_=>True⟩ []:=by
 have z:∀ys:List D,ys.zip ys=ys.map λx=>(x,x):=λys=>by
  induction ys with
  |nil=>rfl
  |cons y ys ih=>simp[ih]
 unfold aj0;rw[e1,bw,e2,bw];unfold anw;simp only[srcOf,and_self];rw[z,eg];rfl
theorem a8u:∀{n:Nat} {d:D},Pl n d->Pu (gq n) 2 [d,d] (.bl true)
 |0,d,p=>p.elim
 |n+1,d,p=>by
  refine K20.a3k rfl (K20.ar2 p.clo p.clo) (h':=[]) ?_;rw[gq,fu];show toR (wz (gq n) [some d,some d] [])=_;unfold wz
  cases d with
  |str x =>
   have i1:j9 [.str x,.ty "tuple"] []=.ok (.bl false) []:=by simp[j9,a6f,tyD,a4t]
   have i2:j9 [.str x,.ty "str"] []=.ok (.bl true) []:=by simp[j9,a6f,tyD,a4t]
   refine eti (amx (vy (qi (bx rfl) ckk i1) (n6 _))) ?_;refine ah toR (mq (av (ifT (amw (vy (qi (bx rfl) ckk i2) (n6 _)) (vy (qi (bx rfl) ckk i2) (n6 _)))) ?_));exact ig (qu (bx rfl) (bx rfl) aja)
  |int i =>
   have i1:j9 [.int i,.ty "tuple"] []=.ok (.bl false) []:=by simp[j9,a6f,tyD,a4t]
   have i2:j9 [.int i,.ty "str"] []=.ok (.bl false) []:=by simp[j9,a6f,tyD,a4t]
   have i3:j9 [.int i,.ty "bool"] []=.ok (.bl false) []:=by simp[j9,a6f,tyD,a4t]
   have i4:j9 [.int i,.ty "int"] []=.ok (.bl true) []:=by simp[j9,a6f,tyD,a4t]
   refine eti (amx (vy (qi (bx rfl) ckk i1) (n6 _))) ?_;refine eti (amx (vy (qi (bx rfl) ckk i2) (n6 _))) ?_;refine eti (orF (vy (qi (bx rfl) ckk i3) (n6 _)) (vy (qi (bx rfl) ckk i3) (n6 _))) ?_;exact ah toR (ig (xg (qi (bx rfl) ckk i4) (xg (qi (bx rfl) ckk i4) (qu (bx rfl) (bx rfl) (a06 rfl)))))
  |tup xs =>
   obtain⟨xl,cx,px⟩:=p;have ih:∀x∈xs,Pu (gq n) 2 [x,x] (.bl true):=λx hx=>a8u (px x hx);have i1:j9 [.tup xs,.ty "tuple"] []=.ok (.bl true) []:=by simp[j9,a6f,tyD,a4t]
   refine ah toR (mq (av (ifT (amw (vy (qi (bx rfl) ckk i1) (n6 _)) (vy (qi (bx rfl) ckk i1) (n6 _)))) ?_));have cz:sZ (vg (aj0 (sV 0) (sV 1)) (tN 2) (v8 (gq n)) []) [some (.tup xs),some (.tup xs)] []=.ok (.rol ((xs.map λ_=>true).map D.bl)) []:=by
    rw[eg];refine a7m (yq (λx=>D.tup [x,x]) (λ_=>.bl true) xs (aeu (bx rfl) (bx rfl)) (du (by omega)) λx hx=>?_) (km λc _=>a3y _) (by simp)
    show v8 (gq n) [some x,some x] []=_;exact qi (bx rfl) (bx rfl) (ih x hx _)
   have ga:afn [.rol ((xs.map λ_=>true).map D.bl)] []=.ok (.bl true) []:=by
    rw[PAP.ag3,dE];simp
   refine ig (xg ?_ (uq cz ga));exact qu (uq (bx rfl) ltn) (uq (bx rfl) ltn) (a06 rfl)
  |_=>exact p.elim
theorem ani:∀{d:Nat} {s:Sh},Ok d s->Pl (2*d) (sd s)
 |0,s,k=>k.elim
 |d+1,s,k=>by
  have ih:∀p∈inn s,Pl (2*d) (sd p):=λp hp=>ani (a3c k hp);have up:∀{m:Nat} {x:D},Pl m x->Pl (m+1) x:=λ{m}=>by
   induction m with
   |zero=>intro x h;exact h.elim
   |succ m ihm =>
    intro x h
    cases x with
    |str x=>trivial
    |int i=>trivial
    |tup xs=>exact⟨h.1,h.2.1,λx hx=>ihm (h.2.2 x hx)⟩
    |_=>exact h.elim
  show Pl (2*d+1+1) (sd s);have c:=lw s;have st:∀x:Str,Pl (2*d+1) (.str x):=λ_=>trivial;have it:∀i:Int,Pl (2*d+1) (.int i):=λ_=>trivial
  cases s with
  |one s =>
   rw[sd];exact⟨by simp,bc (bu _) (bc (bu _) gw),λx hx=>by simp only[aO,aU,bY]at hx;rcases hx with rfl|rfl;exact st _;exact st _⟩
  |row ps =>
   have cp:clos 0 (ps.map sd):=jl ps ▸ vf ps;have r:Pl (2*d+1) (.tup (ps.map sd)):=⟨by rw[aS];have:=k.1;omega,cp,λx hx=>by obtain⟨p,hp,rfl⟩:=e8.mp hx;exact ih p hp⟩
   rw[sd,jl];exact⟨by simp,bc (bu _) (bc (jg cp) gw),λx hx=>by simp only[aO,aU,bY]at hx;rcases hx with rfl|rfl;exact st _;exact r⟩
  |eit ps =>
   have cp:clos 0 (ps.map sd):=jl ps ▸ vf ps;have r:Pl (2*d+1) (.tup (ps.map sd)):=⟨by rw[aS];have:=k.2.1;omega,cp,λx hx=>by obtain⟨p,hp,rfl⟩:=e8.mp hx;exact ih p hp⟩
   rw[sd,jl];exact⟨by simp,bc (bu _) (bc (jg cp) gw),λx hx=>by simp only[aO,aU,bY]at hx;rcases hx with rfl|rfl;exact st _;exact r⟩
  |many q =>
   have r:=up (ih q (by simp[inn]))
   rw[show sd (.many q)=.tup [.str "many",sd q] by simp only[sd]]
   exact⟨by simp,bc (bu _) (bc (lw q) gw),λx hx=>by simp only[aO,aU,bY]at hx;rcases hx with rfl|rfl;exact st _;exact r⟩
  |tim q lo hi =>
   have r:=up (ih q (by simp[inn]))
   rw[show sd (.tim q lo hi)=.tup [.str "times",sd q,iz lo,iz hi] by simp only[sd]]
   exact⟨by simp,bc (bu _) (bc (lw q) (bc (dj _) (bc (dj _) gw))),λx hx=>by simp only[aO,aU,bY]at hx;rcases hx with rfl|rfl|rfl|rfl;exact st _;exact r;exact it _;exact it _⟩
noncomputable def ju:SF:=jr (xf (gq 10) (cj 5) kj (gh 5)) 3
theorem a8v{s:Sh}(k:Ok 5 s)(c:cn s<=24):Pu ju 1 [sd s] (.bl true):=by
 have w:=zg k (ai _) c;have t:=acj k (ai _) c;have r:=aiu k c;have a:=a8u (ani k);refine K20.a3k rfl (K20.ar1 (lw s)) (h':=[]) ?_;unfold ju;rw[fu];show toR (xf (gq 10) (cj 5) kj (gh 5) [some (sd s),none,none] [])=_;unfold xf;have i:j9 [.str (S (wr s)),.ty "str"] []=.ok (.bl true) []:=by simp[j9,a6f,tyD,a4t]
 refine ets (uq (bx rfl) (w _)) ?_;refine ets (uq (bx rfl) (t _)) ?_;refine ah toR (ig ?_);refine xg (qi (bx rfl) ckk i) ?_;refine xg (qu (bx rfl) (bx rfl) aja) ?_;exact qi (uq (bx rfl) (r _)) (bx rfl) (a _)
noncomputable def aev:SF:=jr (aei n8 ju au j7 (fj 5)) 4
theorem drawn{o:O}{N:Nat}(P:Hand o N)(hN:N<=100000000):∃(t:List Nat) (s:Sh) (o1 o2 o3:O) (x':Nat) (r:Nat),Ok 5 s/\cn s<=24/\Dr j7 1 [] o (.str (S t)) o1/\Dr au 2 [.int 5] o1 (iz r) o2/\Dw (fj 5) t (1+r) o2 (pu 23) (sd s) o3 (pu x')/\Hand o3 (N+10000000):=by
 obtain⟨t,o1,t1,t6,nd,g,e1,P1⟩:=acl P (by omega)
 obtain⟨r,o2,e2,r0,r1,P2⟩:=v9 (m:=5) P1 (by omega) (by omega) (by omega)
 obtain⟨r,rfl⟩:=bg r0;have b5:bnd (r+1)<=3361400:=by
  have:r=0\/r=1\/r=2\/r=3\/r=4:=by omega
  rcases this with rfl|rfl|rfl|rfl|rfl<;>decide
 obtain⟨s,o3,x',k,e3,P3,c⟩:=acp t1 t6 nd g r 4 (by omega) o2 _ 23 P2 (by omega) (by omega)
 exact⟨t,s,o1,o2,o3,x',r,apw (by omega) k,by omega,e1,e2,by rw[Nat.add_comm];exact e3,P3.up (by omega)⟩
theorem anj(ns:List Int):∃h',aev [.scr (ns.map D.int)] []=.ok (.bl true) h':=by
 obtain⟨o,P,e0⟩:=aik ns [];obtain⟨t1,s1,o1,o2,o3,x1,r1,k1,c1,e1,e2,e3,P3⟩:=drawn P (by omega)
 obtain⟨t2,s2,p1,p2,p3,x2,r2,k2,c2,f1,f2,f3,P4⟩:=drawn P3 (by omega)
 have g1:=a8v k1 c1;have g2:=a8v k2 c2;refine⟨[p3,pu x1,pu x2],?_⟩;unfold aev;rw[fu];show toR (aei n8 ju au j7 (fj 5) [some (.scr (ns.map D.int)),none,none,none] [])=_;unfold aei;refine ets (uq (bx rfl) e0) ?_;have a1:jd false 1 j7 [.ref 0] [o]=.ok (.str (S t1)) [o1]:=e1 0 _ rfl;have a3:jd false 4 (fj 5) [.ref 0,.str (S t1),.ref 1,iz (1+r1)] [o2,pu 23]=.ok (sd s1) [o3,pu x1]:=e3 0 1 _ (by decide) rfl rfl
 have a2:jd false 2 au [.ref 0,.int 5] [o1,pu 23]=.ok (iz r1) [o2,pu 23]:=e2 0 _ rfl;have b1:jd false 1 j7 [.ref 0] [o3,pu x1]=.ok (.str (S t2)) [p1,pu x1]:=f1 0 _ rfl;have b2:jd false 2 au [.ref 0,.int 5] [p1,pu x1,pu 23]=.ok (iz r2) [p2,pu x1,pu 23]:=f2 0 _ rfl;have b3:jd false 4 (fj 5) [.ref 0,.str (S t2),.ref 2,iz (1+r2)] [p2,pu x1,pu 23]=.ok (sd s2) [p3,pu x1,pu x2]:=f3 0 2 _ (by decide) rfl rfl
 have l1:sA MI.a9a (aj (sI 23) dh) [some (.scr (ns.map D.int)),some (.ref 0),none,none] [o1]=.ok (.ref 1) [o1,pu 23]:=rfl;have l2:sA MI.a9a (aj (sI 23) dh) [some (.scr (ns.map D.int)),some (.ref 0),some (sd s1),none] [p1,pu x1]=.ok (.ref 2) [p1,pu x1,pu 23]:=rfl;refine ets (ain (bx rfl) (uq (bx rfl) a1) l1 (qu ckk (qi (bx rfl) ckk a2) (agf (a:=1) r1)) a3) ?_;refine ets (ain (bx rfl) (uq (bx rfl) b1) l2 (qu ckk (qi (bx rfl) ckk b2) (agf (a:=1) r2)) b3) ?_;exact ah toR (ig (xg (uq (bx rfl) (g1 _)) (xg (uq (bx rfl) (g2 _)) (uq (bx rfl) (g1 _)))))
end K78
namespace K78
open L2 MI
section
variable{P:Program}{w:World}{K:Fg}{mg:Str->Option Value}{base:Heap}{f:Addr}{fd:FuncData}
theorem d_9{f_9:Addr}{e_9:FuncData}(Fu_9:Fun K "parts_count" "parts_count" (top 18) f_9 e_9)(mk_9:mg "parts_count" = some (.ref f_9))(kp_9:PySem.W.keepIn K (.ref f_9)=true)(bd_9:Binds K e_9 ["thing","deep","most"] []){a_12:Addr}{d_12:FuncData}(D_12:Dn P w K mg base 1 "inner" ["shape"] (jx K 1 (K78.jm)) a_12 d_12){a_10:Addr}{d_10:FuncData}(D_10:Dn P w K mg base 4 "is_form" ["thing"] (jx K 1 (K78.kh)) a_10 d_10):∀n:Nat,Dn P w K mg base (n+4) "parts_count" ["thing","deep","most"] (jx K 3 (K78.dz n)) f_9 e_9:=by
 intro n
 induction n with
 |zero=>exact⟨a5b (ps:=["thing","deep","most"]),mk_9,kp_9,bd_9⟩
 |succ n ih =>
  have e:n+1+4=n+4+1:=by omega
  rw[e];have s_parts_count:=ih;exact⟨ym Fu_9 aqz (m_9 D_12 (by omega) D_10 (by omega) s_parts_count (by omega)),mk_9,kp_9,bd_9⟩
theorem apx{f_13:Addr}{e_13:FuncData}(Fu_13:Fun K "shape_text" "shape_text" (top 24) f_13 e_13)(mk_13:mg "shape_text" = some (.ref f_13))(kp_13:PySem.W.keepIn K (.ref f_13)=true)(bd_13:Binds K e_13 ["shape"] []){a_12:Addr}{d_12:FuncData}(D_12:Dn P w K mg base 1 "inner" ["shape"] (jx K 1 (K78.jm)) a_12 d_12){a_5:Addr}{d_5:FuncData}(D_5:Dn P w K mg base 2 "quoted" ["text"] (jx K 1 (K76.m9)) a_5 d_5):∀n:Nat,Dn P w K mg base (n+2) "shape_text" ["shape"] (jx K 1 (K78.gh n)) f_13 e_13:=by
 intro n
 induction n with
 |zero=>exact⟨a5b (ps:=["shape"]),mk_13,kp_13,bd_13⟩
 |succ n ih =>
  have e:n+1+2=n+2+1:=by omega
  rw[e];have s_shape_text:=ih;exact⟨ym Fu_13 am8 (ash D_12 (by omega) D_5 (by omega) s_shape_text (by omega)),mk_13,kp_13,bd_13⟩
theorem ank{f_15:Addr}{e_15:FuncData}(Fu_15:Fun K "shape_at" "shape_at" (top 26) f_15 e_15)(mk_15:mg "shape_at" = some (.ref f_15))(kp_15:PySem.W.keepIn K (.ref f_15)=true)(bd_15:Binds K e_15 ["text","at","deep"] []){f_18:Addr}{e_18:FuncData}(Fu_18:Fun K "many_at" "many_at" (top 29) f_18 e_18)(mk_18:mg "many_at" = some (.ref f_18))(kp_18:PySem.W.keepIn K (.ref f_18)=true)(bd_18:Binds K e_18 ["text","at","deep"] []){f_17:Addr}{e_17:FuncData}(Fu_17:Fun K "parts_at" "parts_at" (top 28) f_17 e_17)(mk_17:mg "parts_at" = some (.ref f_17))(kp_17:PySem.W.keepIn K (.ref f_17)=true)(bd_17:Binds K e_17 ["text","at","deep","form"] []){f_19:Addr}{e_19:FuncData}(Fu_19:Fun K "times_at" "times_at" (top 30) f_19 e_19)(mk_19:mg "times_at" = some (.ref f_19))(kp_19:PySem.W.keepIn K (.ref f_19)=true)(bd_19:Binds K e_19 ["text","at","deep"] [])(M:Nm mg)(G:Kn P w K mg){a_16:Addr}{d_16:FuncData}(D_16:Dn P w K mg base 3 "one_at" ["text","at"] (jx K 2 (K78.v5)) a_16 d_16):∀n:Nat,Dn P w K mg base (n+3) "shape_at" ["text","at","deep"] (jx K 3 (K78.di n)) f_15 e_15/\Dn P w K mg base (n+3) "many_at" ["text","at","deep"] (jx K 3 (K78.uo n)) f_18 e_18/\Dn P w K mg base (n+3) "parts_at" ["text","at","deep","form"] (jx K 4 (K78.nq n)) f_17 e_17/\Dn P w K mg base (n+3) "times_at" ["text","at","deep"] (jx K 3 (K78.qm n)) f_19 e_19:=by
 intro n
 induction n with
 |zero=>exact⟨⟨a5b (ps:=["text","at","deep"]),mk_15,kp_15,bd_15⟩,⟨a5b (ps:=["text","at","deep"]),mk_18,kp_18,bd_18⟩,⟨a5b (ps:=["text","at","deep","form"]),mk_17,kp_17,bd_17⟩,⟨a5b (ps:=["text","at","deep"]),mk_19,kp_19,bd_19⟩⟩
 |succ n ih =>
  have e:n+1+3=n+3+1:=by omega
  rw[e];obtain⟨s_shape_at,s_many_at,s_parts_at,s_times_at⟩:=ih;exact⟨⟨ym Fu_15 ama (asj s_many_at (by omega) D_16 (by omega) s_parts_at (by omega) s_times_at (by omega)),mk_15,kp_15,bd_15⟩,⟨ym Fu_18 amd (asn s_shape_at (by omega)),mk_18,kp_18,bd_18⟩,⟨ym Fu_17 amc (asm M s_shape_at (by omega)),mk_17,kp_17,bd_17⟩,⟨ym Fu_19 ame (aso M G s_shape_at (by omega)),mk_19,kp_19,bd_19⟩⟩
theorem apy{f_27:Addr}{e_27:FuncData}(Fu_27:Fun K "_law_wide" "_law_wide" (top 39) f_27 e_27)(mk_27:mg "_law_wide" = some (.ref f_27))(kp_27:PySem.W.keepIn K (.ref f_27)=true)(bd_27:Binds K e_27 ["_law_hand_here","_law_tongue_here","_law_purse","_law_deep"] [])(M:Nm mg){a_26:Addr}{d_26:FuncData}(D_26:Dn P w K mg base 2 "_law_one" ["_law_hand_here","_law_tongue_here"] (jx K 2 (K78.jo)) a_26 d_26){a_21:Addr}{d_21:FuncData}(D_21:Dn P w K mg base 1 "_law_take" ["_law_hand_here","_law_many"] (jx K 2 (HND.au)) a_21 d_21):∀n:Nat,Dn P w K mg base (n+2) "_law_wide" ["_law_hand_here","_law_tongue_here","_law_purse","_law_deep"] (jx K 4 (K78.fj n)) f_27 e_27:=by
 intro n
 induction n with
 |zero=>exact⟨a5b (ps:=["_law_hand_here","_law_tongue_here","_law_purse","_law_deep"]),mk_27,kp_27,bd_27⟩
 |succ n ih =>
  have e:n+1+2=n+2+1:=by omega
  rw[e];have s_law_wide:=ih;exact⟨ym Fu_27 amm (asx M D_26 (by omega) D_21 (by omega) s_law_wide (by omega)),mk_27,kp_27,bd_27⟩
theorem apz{f_28:Addr}{e_28:FuncData}(Fu_28:Fun K "_law_written" "_law_written" (top 40) f_28 e_28)(mk_28:mg "_law_written" = some (.ref f_28))(kp_28:PySem.W.keepIn K (.ref f_28)=true)(bd_28:Binds K e_28 ["_law_shape"] []){a_24:Addr}{d_24:FuncData}(D_24:Dn P w K mg base 1 "_law_quote" ["_law_text"] (jx K 1 (K76.iy)) a_24 d_24):∀n:Nat,Dn P w K mg base (n+1) "_law_written" ["_law_shape"] (jx K 1 (K78.cj n)) f_28 e_28:=by
 intro n
 induction n with
 |zero=>exact⟨a5b (ps:=["_law_shape"]),mk_28,kp_28,bd_28⟩
 |succ n ih =>
  have e:n+1+1=n+1+1:=by omega
  rw[e];have s_law_written:=ih;exact⟨ym Fu_28 amn (asy D_24 (by omega) s_law_written (by omega)),mk_28,kp_28,bd_28⟩
theorem aq0{f_29:Addr}{e_29:FuncData}(Fu_29:Fun K "_law_alike" "_law_alike" (top 41) f_29 e_29)(mk_29:mg "_law_alike" = some (.ref f_29))(kp_29:PySem.W.keepIn K (.ref f_29)=true)(bd_29:Binds K e_29 ["_law_one_here","_law_other"] [])(M:Nm mg):∀n:Nat,Dn P w K mg base (n+0) "_law_alike" ["_law_one_here","_law_other"] (jx K 2 (K78.gq n)) f_29 e_29:=by
 intro n
 induction n with
 |zero=>exact⟨a5b (ps:=["_law_one_here","_law_other"]),mk_29,kp_29,bd_29⟩
 |succ n ih =>
  have e:n+1+0=n+0+1:=by omega
  rw[e];have s_law_alike:=ih;exact⟨ym Fu_29 amo (asz M s_law_alike (by omega)),mk_29,kp_29,bd_29⟩
end
def aew(K:Fg):Sp:=λvs H Q _=>∃(a:Addr) (ns:List Int),vs=[.ref a]/\SqF K H a (ns.map V.int)/\ns.length<=63/\∀H',Q (.bl true) H'
theorem a6y{K:Fg}{ι:List Addr}{H:Hp}:∀ns:List Int,Reps K ι H (ns.map V.int) (ns.map D.int)
 |[]=>.nil
 |n::ns=>.cons (.int n) (a6y ns)
theorem anl{K:Fg}(vs:List V)(H:Hp)(Q:VK)(E:XK)(h:aew K vs H Q E):jx K 1 K78.aev vs H Q E:=by
 obtain⟨a,ns,rfl,hS,hl,q⟩:=h;obtain⟨h',e⟩:=K78.anj ns;refine⟨rfl,[],[.scr (ns.map D.int)],[],.cons (.scr hS (a6y ns)) .nil,⟨dD,rfl,λi a o z=>by simp at z⟩,?_⟩
 rw[e]
 intro ι' H' b g r hr
 cases r
 exact q H'
theorem anm{K:Fg}{H:Hp}{a:Addr}{vs:List V}(hO:Only H)(hS:SqL K H a vs):SqF K H a vs:=by
 rcases hS with r|r
 ·rcases r with r|⟨o,r⟩
  ·rcases hO a with z|⟨o,xs,z⟩<;>rw[z]at r<;>cases r
  ·exact .inl ⟨o,r⟩
 ·exact .inr (.inr r)
abbrev fo(x:Str)(t:Stmt)(kV dc pm:Value)(an:Option Addr)(cd ct:Value):=PySem.W.fnOf x x (a00 t) (qz t) (bh t) .none kV dc pm an cd ct
def Df(K:Fg)(f:Addr)(nm:Str)(i:Nat):Prop:=∃oc od kV dc pm an cd ct sl,PySem.W.nsIn K mainGlobals nm=some (some (.ref f))/\K.lookup f=some ⟨oc,od,.func (fo nm (top i) kV dc pm an cd ct),sl⟩/\PySem.W.codeIn K cd nm=true/\PySem.W.keepIn K (.ref f)=true
theorem df{K:Fg}{f:Addr}{nm:Str}{i:Nat}(d:Df K f nm i):∃e,PySem.W.nsIn K mainGlobals nm=some (some (.ref f))/\Fun K nm nm (top i) f e:=by
 obtain⟨_,_,_,_,_,_,_,_,_,a,l,c,k⟩:=d;exact⟨_,a,akc l c k⟩
theorem ur{P:Program}{w:World}{K:Fg}{mg:Str->Option Value}{base h:Heap}{f:Addr}{nm:Str}{i k:Nat}{F:SF}{N ps:List Str}{b:SS}(S:FnScope N ps (bh (top i)))(d:Df K f nm i)(X:K.In h)(G:h.Ns mainGlobals mg)
  (hb:∀(cdv:Value) (A:Around) (outer:List Env) (s:Shared) (H:Hp) (E:XK),Room k (A.deeper (PyProof.Rows.envOfC nm (bh (top i)) s.heap.objs.size f cdv))->MSs (acr CX0 P w K mg base N nm (bh (top i)) f cdv A outer s H E).nox X0 (qz (top i)) b)
  (h:∀(kV doc pm:Value) (an:Option Addr) (cdv ct:Value) (us:List Value),us.length=ps.length->bindArgs (PySem.W.fnOf nm nm (a00 (top i)) (qz (top i)) (bh (top i)) .none kV doc pm an cdv ct) ⟨us,[]⟩=pure (ps.zip us)) (e:F=jr b N.length:=by rfl) :
  ∃fd,Dn P w K mg base (k+1) nm ps (jx K ps.length F) f fd:=by
 obtain⟨_,a,Fu⟩:=df d;rw[e];exact⟨_,ym Fu S hb,bo X G a,Fu.kp,Fu.binds h⟩
local macro_rules|`(tactic|walk_at "b") => `(tactic|(intro _ _ _ _ _ _ us hl;first|(apply aql hl;intro _;exact rfl)|(apply aqm hl;intro _ _;exact rfl)|(apply aqn hl;intro _ _ _;exact rfl)|(apply aqo hl;intro _ _ _ _;exact rfl)|(apply aqp hl;intro _ _ _ _ _;exact rfl)|(apply asb hl;intro _ _ _ _ _ _;exact rfl)|(apply len0 hl;exact rfl)))
theorem ano{l:PySem.W.OpenLaw}{w:World}{K:Fg}{h:Heap}{mg:Str->Option Value}{fa f1 f2 f3 f4 f5 f6 f7 f8 f9 f10 f11 f12 f13 f14 f15 f16 f17 f18 f19 f20 f21 f22 f23 f24 f25 f26 f27 f28 f29 f30 f31 f32:Addr}(X:K.In h)(G:h.Ns mainGlobals mg)(hfa:mg "law" = some (.ref fa))
  (d1:Df K f1 "is_number" 4)
  (d2:Df K f2 "is_number_from" 5)
  (d3:Df K f3 "is_row" 6)
  (d4:Df K f4 "is_sign" 7)
  (d5:Df K f5 "is_unlike_signs" 8)
  (d6:Df K f6 "quoted" 11)
  (d7:Df K f7 "written_sign" 12)
  (d8:Df K f8 "quote_at" 13)
  (d9:Df K f9 "is_shape" 17)
  (d10:Df K f10 "parts_count" 18)
  (d11:Df K f11 "is_form" 19)
  (d12:Df K f12 "are_times" 20)
  (d13:Df K f13 "inner" 21)
  (d14:Df K f14 "shape_text" 24)
  (d15:Df K f15 "read_shape" 25)
  (d16:Df K f16 "shape_at" 26)
  (d17:Df K f17 "one_at" 27)
  (d18:Df K f18 "parts_at" 28)
  (d19:Df K f19 "many_at" 29)
  (d20:Df K f20 "times_at" 30)
  (d21:Df K f21 "_law_hand" 32)
  (d22:Df K f22 "_law_take" 33)
  (d23:Df K f23 "_law_signs" 34)
  (d24:Df K f24 "_law_sign" 35)
  (d25:Df K f25 "_law_quote" 36)
  (d26:Df K f26 "_law_tongue" 37)
  (d27:Df K f27 "_law_one" 38)
  (d28:Df K f28 "_law_wide" 39)
  (d29:Df K f29 "_law_written" 40)
  (d30:Df K f30 "_law_alike" 41)
  (d31:Df K f31 "_law_right" 42)
  (d32:Df K f32 "law" 43)
  {w1:Addr} {we1:Nat} {wt1_0 wt1_1 wt1_2 wt1_3 wt1_4 wt1_5:Tok} (g1:PySem.W.nsIn K mainGlobals "WRITTEN" = some (some (.ref w1))) (h1:K.lookup w1=some ⟨.type "dict",none,.dict #[⟨PyData.keyHash w.params "\\n",.str "\\n" wt1_0,.str "\n" wt1_1⟩,⟨PyData.keyHash w.params "\\>",.str "\\>" wt1_2,.str ">" wt1_3⟩,⟨PyData.keyHash w.params "\\\\",.str "\\\\" wt1_4,.str "\\" wt1_5⟩] we1, #[]⟩) (i1:(w1 == sysModules)=false)
  {v1:Addr} {ve1:Nat} {vt1_0 vt1_1 vt1_2 vt1_3 vt1_4 vt1_5 vt1_6 vt1_7 vt1_8 vt1_9:Tok} (gt1:PySem.W.nsIn K mainGlobals "FIGURES" = some (some (.ref v1))) (ht1:K.lookup v1=some ⟨.type "tuple",none,.seq #[.str "0" vt1_0,.str "1" vt1_1,.str "2" vt1_2,.str "3" vt1_3,.str "4" vt1_4,.str "5" vt1_5,.str "6" vt1_6,.str "7" vt1_7,.str "8" vt1_8,.str "9" vt1_9] ve1, #[]⟩)
  (z1:PySem.W.nsIn K mainGlobals "abs" = some none) (z2:PySem.W.nsIn K mainGlobals "all" = some none) (z3:PySem.W.nsIn K mainGlobals "bool" = some none) (z4:PySem.W.nsIn K mainGlobals "int" = some none) (z5:PySem.W.nsIn K mainGlobals "isinstance" = some none) (z6:PySem.W.nsIn K mainGlobals "len" = some none) (z7:PySem.W.nsIn K mainGlobals "list" = some none) (z8:PySem.W.nsIn K mainGlobals "min" = some none) (z9:PySem.W.nsIn K mainGlobals "ord" = some none) (z10:PySem.W.nsIn K mainGlobals "range" = some none) (z11:PySem.W.nsIn K mainGlobals "set" = some none) (z12:PySem.W.nsIn K mainGlobals "str" = some none) (z13:PySem.W.nsIn K mainGlobals "tuple" = some none) (z14:PySem.W.nsIn K mainGlobals "zip" = some none) {ty1:Tok} (y1:PySem.W.nsIn K mainGlobals "DEEPEST" = some (some (.int 5 ty1))) {ty2:Tok} (y2:PySem.W.nsIn K mainGlobals "MOST_PARTS" = some (some (.int 24 ty2))) :
  ∃fd:FuncData,(∀(s:Shared) (v:Value),BindsTo s fd ⟨[v],[]⟩ [("_law_script",v)])/\∀base:Heap,K.In base->base.Ns mainGlobals mg->FnOk l.prog w K mg base CX0 16 fa fd ["_law_script"] (aew K):=by
 obtain⟨_,a10,F10⟩:=df d10;have b10:=F10.binds (ps:=["thing","deep","most"]) (by walk_at "b")
 obtain⟨_,a14,F14⟩:=df d14;have b14:=F14.binds (ps:=["shape"]) (by walk_at "b")
 obtain⟨_,a16,F16⟩:=df d16;have b16:=F16.binds (ps:=["text","at","deep"]) (by walk_at "b")
 obtain⟨_,a18,F18⟩:=df d18;have b18:=F18.binds (ps:=["text","at","deep","form"]) (by walk_at "b")
 obtain⟨_,a19,F19⟩:=df d19;have b19:=F19.binds (ps:=["text","at","deep"]) (by walk_at "b")
 obtain⟨_,a20,F20⟩:=df d20;have b20:=F20.binds (ps:=["text","at","deep"]) (by walk_at "b")
 obtain⟨_,a28,F28⟩:=df d28;have b28:=F28.binds (ps:=["_law_hand_here","_law_tongue_here","_law_purse","_law_deep"]) (by walk_at "b")
 obtain⟨_,a29,F29⟩:=df d29;have b29:=F29.binds (ps:=["_law_shape"]) (by walk_at "b")
 obtain⟨_,a30,F30⟩:=df d30;have b30:=F30.binds (ps:=["_law_one_here","_law_other"]) (by walk_at "b")
 obtain⟨_,a32,F32⟩:=df d32;have e:=hfa.symm.trans (bo X G a32);cases e
 obtain⟨oc,od,kV32,dc32,pm32,an32,cd32,ct32,sl,rfl,lk,hc⟩:=id F32.ex;have b32:=F32.binds (ps:=["_law_script"]) (by walk_at "b")
 have M:Nm mg:=⟨aX X G z1,aX X G z2,aX X G z3,aX X G z4,aX X G z5,aX X G z6,aX X G z7,aX X G z8,aX X G z9,aX X G z10,aX X G z11,aX X G z12,aX X G z13,aX X G z14⟩;have C:Cn mg:=⟨⟨_,bo X G y1⟩,⟨_,bo X G y2⟩⟩;have GK:Kn l.prog w K mg:=⟨⟨_,bo X G gt1,⟨_,_,_,ht1,rfl,rfl,by show 10<=sizeLine;decide,.cons ⟨_,rfl⟩ (.cons ⟨_,rfl⟩ (.cons ⟨_,rfl⟩ (.cons ⟨_,rfl⟩ (.cons ⟨_,rfl⟩ (.cons ⟨_,rfl⟩ (.cons ⟨_,rfl⟩ (.cons ⟨_,rfl⟩ (.cons ⟨_,rfl⟩ (.cons ⟨_,rfl⟩ (.nil))))))))))⟩⟩,⟨_,bo X G g1,KD.of3 i1 (by decide +kernel) h1⟩⟩
 refine⟨PySem.W.fnOf "law" "law" (a00 (top 43)) (qz (top 43)) (bh (top 43)) .none kV32 dc32 pm32 an32 cd32 ct32,λs v=>.of_eq rfl,λbase _ _=>?_⟩;obtain⟨_,D_0⟩:=ur (F:=K20.my) (k:=0) aqq d1 X G (m_0 M) (by walk_at "b")
 obtain⟨_,D_1⟩:=ur (F:=K20.gj) (k:=1) aqr d2 X G (m_1 D_0 (by decide)) (by walk_at "b")
 obtain⟨_,D_2⟩:=ur (F:=K20.p6) (k:=0) aqs d3 X G (m_2 M) (by walk_at "b")
 obtain⟨_,D_3⟩:=ur (F:=K20.gf) (k:=0) aqt d4 X G (m_3 M) (by walk_at "b")
 obtain⟨_,D_4⟩:=ur (F:=K20.ik) (k:=1) aqu d5 X G (m_4 M D_3 (by decide)) (by walk_at "b")
 obtain⟨_,D_6⟩:=ur (F:=K76.iw) (k:=0) aqw d7 X G (m_6 ) (by walk_at "b")
 obtain⟨_,D_5⟩:=ur (F:=K76.m9) (k:=1) aqv d6 X G (m_5 D_6 (by decide)) (by walk_at "b")
 obtain⟨_,D_7⟩:=ur (F:=K78.nj) (k:=1) aqx d8 X G (m_7 GK D_3 (by decide)) (by walk_at "b")
 obtain⟨_,D_12⟩:=ur (F:=K78.jm) (k:=0) am7 d13 X G (asf ) (by walk_at "b")
 obtain⟨_,D_11⟩:=ur (F:=K78.mz) (k:=2) am6 d12 X G (ase D_1 (by decide)) (by walk_at "b")
 obtain⟨_,D_10⟩:=ur (F:=K78.kh) (k:=3) am5 d11 X G (asd M D_11 (by decide) D_2 (by decide) D_4 (by decide)) (by walk_at "b")
 have D_9:=d_9 (P:=l.prog) (w:=w) (base:=base) F10 (bo X G a10) F10.kp b10 D_12 D_10 5;obtain⟨_,D_8⟩:=ur (F:=K78.qj) (k:=9) aqy d9 X G (m_8 C D_9 (by decide)) (by walk_at "b")
 have D_13:=apx (P:=l.prog) (w:=w) (base:=base) F14 (bo X G a14) F14.kp b14 D_12 D_5 5;obtain⟨_,D_16⟩:=ur (F:=K78.v5) (k:=2) amb d17 X G (asl D_7 (by decide)) (by walk_at "b")
 obtain⟨D_15,D_18,D_17,D_19⟩:=ank (P:=l.prog) (w:=w) (base:=base) F16 (bo X G a16) F16.kp b16 F19 (bo X G a19) F19.kp b19 F18 (bo X G a18) F18.kp b18 F20 (bo X G a20) F20.kp b20 M GK D_16 10;obtain⟨_,D_14⟩:=ur (F:=K78.kj) (k:=13) am9 d15 X G (asi M C D_8 (by decide) D_15 (by decide)) (by walk_at "b")
 obtain⟨_,D_20⟩:=ur (F:=HND.n8) (k:=0) amf d21 X G (asp M) (by walk_at "b")
 obtain⟨_,D_21⟩:=ur (F:=HND.au) (k:=0) amg d22 X G (asq M) (by walk_at "b")
 obtain⟨_,D_22⟩:=ur (F:=HND.jt) (k:=0) amh d23 X G (asr ) (by walk_at "b")
 obtain⟨_,D_23⟩:=ur (F:=K76.j8) (k:=1) ami d24 X G (ass M D_22 (by decide) D_21 (by decide)) (by walk_at "b")
 obtain⟨_,D_24⟩:=ur (F:=K76.iy) (k:=0) amj d25 X G (asu ) (by walk_at "b")
 obtain⟨_,D_25⟩:=ur (F:=K78.j7) (k:=2) amk d26 X G (asv M D_23 (by decide) D_21 (by decide)) (by walk_at "b")
 obtain⟨_,D_26⟩:=ur (F:=K78.jo) (k:=1) aml d27 X G (asw M D_21 (by decide)) (by walk_at "b")
 have D_27:=apy (P:=l.prog) (w:=w) (base:=base) F28 (bo X G a28) F28.kp b28 M D_26 D_21 5;have D_28:=apz (P:=l.prog) (w:=w) (base:=base) F29 (bo X G a29) F29.kp b29 D_24 5;have D_29:=aq0 (P:=l.prog) (w:=w) (base:=base) F30 (bo X G a30) F30.kp b30 M 10;obtain⟨_,D_30⟩:=ur (F:=K78.ju) (k:=14) amq d31 X G (at5 M D_29 (by decide) D_28 (by decide) D_14 (by decide) D_13 (by decide)) (by walk_at "b")
 have D_31:Dn l.prog w K mg base 16 "law" ["_law_script"] (jx K 1 (K78.aev)) _ _:=⟨ym F32 amr (at6 D_20 (by decide) D_30 (by decide) D_21 (by decide) D_25 (by decide) D_27 (by decide)),bo X G a32,F32.kp,b32⟩
 exact D_31.ok.imp anl
theorem walk{l:PySem.W.OpenLaw}{q:Program}{loose:List Str}{XP:(Str->Option Value)->Heap->Prop}{YP:World->Heap->Prop}{d:DefRec}{K:Params->Fg}(hn:l.most=some 63)(hdf:d.params.defaults=[])
  (hY:∀(w:World) (h:Heap),YP w h->(K w.params).In h)
  (F:∀(w:World) (mg:Str->Option Value) (fa:Addr) (h:Heap),(K w.params).In h->h.Ns mainGlobals mg->mg d.name=some (.ref fa)->
   ∃fd:FuncData,(∀(s:Shared) (u:Value),BindsTo s fd ⟨[u],[]⟩ [("_law_script",u)])/\∀base:Heap,(K w.params).In base->base.Ns mainGlobals mg->FnOk l.prog w (K w.params) mg base CX0 16 fa fd ["_law_script"] (aew (K w.params))) :
  PySem.W.WalkO q loose XP YP l.row.toRowW d [] (λf vs=>PySem.call f vs) :=
 L2.ah6 (n:=63) (k:=16) (x := "_law_script") (CX:=λ_=>CX0) (sp:=λw=>aew (K w.params)) hn (by decide) hdf ⟨rfl,by decide,by decide,rfl⟩ hY F (λ_ _ a ns hl hO hS=>⟨a,ns,rfl,anm hO hS,hl,λ_=>rfl⟩) λ_ _ _ _ _ z=>z
end K78
open PySem.W PyProof.Rows
local macro_rules|`(tactic|o_head $H) => `(tactic|refine PySem.W.holds_open (q:=K78.hq) (loose:=K78.hl) (Xt:=fun _=>true) (XP:=fun _ _=>True) (Yf:=Hook.obs $H) (Ya:=Hook.val $H) (YP:=Hook.says $H) (N:=20000) ?hl (Hook.of $H) (Hook.keeps $H) (fun _ _=>trivial) (fun _ _ _ _ _=>trivial) (by rfl) (by rfl) (by rfl) (fun _ _=>recFacts_nil rfl) (by rfl) (by assumption) (by decide +kernel) ⟨rfl,rfl,rfl,rfl,rfl,by decide +kernel⟩ ?hw ?hc)
set_option maxRecDepth 100000 in
set_option maxHeartbeats 0 in
theorem PySem.Challenge.cw_nearreach_k78_shapes_written_holds : PySem.Challenge.rw_nearreach_k78_shapes_written.Holds := by
 w_on;refine holds_law K78.said fun said=>?_;o_head (kHook K78.A.heap_1 [2,3,15,22,23,24,25,28,35,36,37,40,42,43,45,46,47,49,50,52,53,54,56,57,59,60,61,63,64,66,67,68,71,72,73,74,77,78,79,81,82,84,85,86,88,89,91,92,93,95,96,98,99,100,102,103,105,106,107,109,110,112,113,114,116,117,119,120,121,123,124,126,127,128,129,132,133,134,136,137,139,140,141,143,144,146,147,148,150,151,153,154,155,157,158,160,161,162,164,165,167,168,169,171,172,174,175,176,178,179,181,182,183,185,186,188,189,190,192,193,195,196,197,199,200,202,203,204,206,207,209,210,211,213,214,216,217,218,220,221,223,224,225,228,229,230,233,234,235,238,239,240,242,243,245,246,247,249,250,252,253] (fun _=>by kernel_rfl))
 (case hw=>w_witness2)
 (case hl=>exact K78.hlok)
 k_fill
 refine K78.walk (l:=PySem.Challenge.rw_nearreach_k78_shapes_written) rfl rfl (fun w h Y=>PySem.W.kIn_of Y) ?F
 case F =>
  intro w mg fa h KX G hmg
  refine' K78.ano KX G hmg ?_ ?_ ?_ ?_ ?_ ?_ ?_ ?_ ?_ ?_ ?_ ?_ ?_ ?_ ?_ ?_ ?_ ?_ ?_ ?_ ?_ ?_ ?_ ?_ ?_ ?_ ?_ ?_ ?_ ?_ ?_ ?_ ?g1 ?h1 ?i1 ?gt1 ?ht1 ?_ ?_ ?_ ?_ ?_ ?_ ?_ ?_ ?_ ?_ ?_ ?_ ?_ ?_ ?y1 ?y2
  all_goals first | k_is | exact ⟨_,_,_,_,_,_,_,_,_,by k_is,by k_is,by k_is,by k_is⟩ | skip
  try (case g1=>k_is)
  try (case h1=>k_is)
  try (case i1=>rfl)
  try (case gt1=>k_is)
  try (case ht1=>k_is)
  try (case y1=>k_is)
  try (case y2=>k_is)
