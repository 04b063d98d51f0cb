import PyProof.Rows.All
import Wide.All
import OpenK.AllK
import Wide.FinOn
import Lean
import PyProof.EqAt
import PyProof.EqKinds
import PyProof.TupleCall
import PyProof.ListStr
import PyProof.TupleOfStr
import PyProof.ConsumeWalk
import PyProof.SliceStr2
import PyProof.CompUse
import PyProof.Rows.SetFrom
import PyProof.SetRoads
import PyProof.StrLawsIn
import PyProof.Rows.StrIndexOr
import PyProof.Rows.StrJoin2
import PyProof.Rows.SumAny
import PyProof.Draws
import PyProof.ZipIter
import PyProof.EnumMake
import PyProof.ListRange
import PyProof.Rows.Range3
import KE.KStateDown
import PyProof.ReprRoads
import PyProof.CallFns
import KE.KTryDeep
import PyProof.ExcBaseAll.ValueError
import KE.KTryMore
import KE.KIsNot
import PyProof.ExcAttrAll.ValueError
import PyProof.NsDelKeeps
import PySem.Challenge.RW_nearreach_k21_rooms_and_kinds_of_words
set_option Elab.async false
set_option linter.all false
set_option maxRecDepth 100000
namespace L2
open PySem PySem.Spec PyProof.Rows
abbrev Key := Sum Int Str
def keyIs : Key → Value → Bool
  | .inl k, v => Value.isInt k v
  | .inr x, v => Value.isStrOf x v
def keyH (w : World) : Key → Int
  | .inl k => hashInt k
  | .inr x => hashStr w x
theorem keyIs_shape : ∀ {k : Key} {v : Value}, keyIs k v = true → (∃ i t, k = Sum.inl i ∧ v = Value.int i t) ∨ (∃ x t, k = Sum.inr x ∧ v = Value.str x t)
  | .inl i, v, h => by
    obtain ⟨t, e⟩ := Value.isInt_shape (k := i) (v := v) h
    exact .inl ⟨i, t, rfl, e⟩
  | .inr x, v, h => by
    obtain ⟨t, e⟩ := Value.isStrOf_shape (x := x) (v := v) h
    exact .inr ⟨x, t, rfl, e⟩
theorem key_ll (a b : Int) : decide ((Sum.inl a : Key) = Sum.inl b) = (a == b) := by
  by_cases e : a = b
  · subst e; simp
  · have h : ¬ (Sum.inl a : Key) = Sum.inl b := fun q => e (Sum.inl.inj q)
    rw [decide_eq_false h]
    exact (beq_eq_false_iff_ne.mpr e).symm
theorem key_rr (a b : Str) : decide ((Sum.inr a : Key) = Sum.inr b) = decide (a = b) := by
  by_cases e : a = b
  · subst e; simp
  · have h : ¬ (Sum.inr a : Key) = Sum.inr b := fun q => e (Sum.inr.inj q)
    rw [decide_eq_false h, decide_eq_false e]
theorem key_lr (a : Int) (b : Str) : decide ((Sum.inl a : Key) = Sum.inr b) = false := decide_eq_false (fun q => nomatch q)
theorem key_rl (a : Str) (b : Int) : decide ((Sum.inr a : Key) = Sum.inl b) = false := decide_eq_false (fun q => nomatch q)
def mixKind (prog : Program) (w : World) : PySem.KeyKind prog w Key where
  is := keyIs
  hash := keyH w
  inj := fun v a b ha hb => by
    rcases keyIs_shape ha with ⟨i, t, rfl, rfl⟩ | ⟨x, t, rfl, rfl⟩
    · rcases keyIs_shape hb with ⟨j, u, rfl, e⟩ | ⟨y, u, rfl, e⟩
      · injection e with e1 _; rw [e1]
      · exact nomatch e
    · rcases keyIs_shape hb with ⟨j, u, rfl, e⟩ | ⟨y, u, rfl, e⟩
      · exact nomatch e
      · injection e with e1 _; rw [e1]
  byValue := fun k v h => by
    rcases keyIs_shape h with ⟨i, t, rfl, rfl⟩ | ⟨x, t, rfl, rfl⟩ <;> rfl
  pyHash := fun hv h => by
    rcases keyIs_shape hv with ⟨i, t, rfl, rfl⟩ | ⟨x, t, rfl, rfl⟩
    · exact wpAny_pyHash_int h
    · exact wpAny_pyHash_str h
  eqBool := fun hu hv h => by
    rcases keyIs_shape hu with ⟨i, t, rfl, rfl⟩ | ⟨x, t, rfl, rfl⟩
    · rcases keyIs_shape hv with ⟨j, u, rfl, rfl⟩ | ⟨y, u, rfl, rfl⟩
      · rw [key_ll] at h; exact wpAny_eqBool_int h
      · rw [key_lr] at h; exact SeqAt.EqAt.int_str i t y u _ _ _ _ h
    · rcases keyIs_shape hv with ⟨j, u, rfl, rfl⟩ | ⟨y, u, rfl, rfl⟩
      · rw [key_rl] at h; exact SeqAt.EqAt.str_int x t j u _ _ _ _ h
      · rw [key_rr] at h; exact wpAny_eqBool_str h
  «strs» := fun k x t v h => by
    rcases keyIs_shape h with ⟨i, u, rfl, e⟩ | ⟨y, u, rfl, e⟩
    · exact nomatch e
    · injection e with e1 _
      subst e1
      cases v <;> rfl
end L2
namespace L2
open PySem PySem.Spec PyProof.Rows
inductive V where
  | non | bl (b : Bool) | int (i : Int) | str (x : Str) | byt (b : Array UInt8) | flt (b : UInt64) | ref (a : Addr) | ty (n : String)
  deriving DecidableEq
def RelV : V → Value → Prop
  | .non, u => u = Value.none
  | .bl b, u => u = Value.bool b
  | .int i, u => ∃ t, u = Value.int i t
  | .str x, u => ∃ t, u = Value.str x t
  | .byt b, u => ∃ t, u = Value.bytes b t
  | .flt b, u => ∃ t, u = Value.float b t
  | .ref a, u => u = Value.ref a
  | .ty n, u => u = Value.type n
abbrev Vals : List V → List Value → Prop := Paired RelV
theorem Vals.length {xs : List V} {us : List Value} (r : Vals xs us) : xs.length = us.length := Paired.length r
theorem Vals.get : ∀ {xs : List V} {us : List Value} {i : Nat} {x : V}, Vals xs us → xs[i]? = some x → ∃ u, us[i]? = some u ∧ RelV x u
  | _, _, _, _, .nil, e => by simp at e
  | _, _, 0, _, .cons r _, e => by simp at e; subst e; exact ⟨_, rfl, r⟩
  | _, _, i + 1, x, .cons _ t, e => by
    obtain ⟨u, h1, h2⟩ := Vals.get (i := i) (x := x) t (by simpa using e)
    exact ⟨u, by simpa using h1, h2⟩
theorem Vals.set {x : V} {u : Value} (r : RelV x u) : ∀ {xs : List V} {us : List Value} (i : Nat), Vals xs us → Vals (xs.set i x) (us.set i u)
  | _, _, _, .nil => .nil
  | _, _, 0, .cons _ t => .cons r t
  | _, _, i + 1, .cons q t => .cons q (Vals.set r i t)
theorem Vals.append : ∀ {xs ys : List V} {us ws : List Value}, Vals xs us → Vals ys ws → Vals (xs ++ ys) (us ++ ws)
  | _, _, _, _, .nil, s => s
  | _, _, _, _, .cons r t, s => .cons r (Vals.append t s)
theorem Vals.take : ∀ {xs : List V} {us : List Value} (n : Nat), Vals xs us → Vals (xs.take n) (us.take n)
  | _, _, 0, _ => .nil
  | _, _, _ + 1, .nil => .nil
  | _, _, n + 1, .cons r t => .cons r (Vals.take n t)
theorem Vals.drop : ∀ {xs : List V} {us : List Value} (n : Nat), Vals xs us → Vals (xs.drop n) (us.drop n)
  | _, _, 0, r => r
  | _, _, _ + 1, .nil => .nil
  | _, _, n + 1, .cons _ t => Vals.drop n t
def RelO : Option V → Option Value → Prop
  | some v, some u => RelV v u
  | none, none => True
  | _, _ => False
def KV {κ : Type} : List (κ × V) → List (κ × Value) → Prop := Paired fun (p : κ × V) (q : κ × Value) => p.1 = q.1 ∧ RelV p.2 q.2
def kV : Key → V
  | .inl i => .int i
  | .inr x => .str x
inductive HO where
  | lst (xs : List V)
  | tup (xs : List V)
  | dK (kvs : List (Key × V)) | dT (kvs : List (List Key × V))
  | set (S : Int → Bool) (n : Nat)
  | ins (C dx : Addr) (fs : List (Str × V))
  | own (x : Addr)
  | xd (fs : List (Str × V))
  | met (f x : Addr)
  | rng (lo hi : Int)
  | frz (o : Obj) (u : HO)
  | tbl (ps : Array Value)
  | ext (φ : Heap → Prop)
abbrev Hp := Addr → Option HO
def upd (H : Hp) (a : Addr) (o : HO) : Hp := fun b => if b = a then some o else H b
theorem upd_same {H : Hp} {a : Addr} {o : HO} : upd H a o a = some o := by unfold upd; rw [if_pos rfl]
theorem upd_ne {H : Hp} {a b : Addr} {o : HO} (h : b ≠ a) : upd H a o b = H b := by unfold upd; rw [if_neg h]
theorem ne_of_none {H : Hp} {a b : Addr} {o : HO} (h : H a = some o) (h' : H b = none) : a ≠ b := by
  intro e; subst e; rw [h] at h'; cases h'
section
variable (P : Program) (w : World)
def ObjOk (H : Hp) (h : Heap) (a : Addr) : HO → Prop
  | .lst xs => xs.length ≤ sizeLine ∧ ∃ (its : List Value) (n : Nat), Vals xs its ∧ h.get? a = some { cls := .type "list", data := .seq its.toArray n }
  | .tup xs => xs.length ≤ sizeLine ∧ ∃ its : List Value, Vals xs its ∧ IsTup h a its.toArray
  | .dK kvs => kvs.length ≤ sizeLine ∧ (a == sysModules) = false ∧ ∃ vs, KV kvs vs ∧ h.DictOf (mixKind P w) a vs
  | .dT kvs => kvs.length ≤ sizeLine ∧ (a == sysModules) = false ∧ ∃ xs : List (List Key × Addr × Value),
      Paired (fun (p : List Key × V) (q : List Key × Addr × Value) => p.1 = q.1 ∧ H q.2.1 = some (.tup (p.1.map kV)) ∧ RelV p.2 q.2.2) kvs xs ∧
      ∃ o es ep, h.get? a = some o ∧ o.ExactDict ∧ o.data = .dict es ep ∧ es.toList = xs.map (entryOfKey (tupleKind (mixKind P w))) ∧ (xs.map (·.1)).Nodup
  | .set S n => h.SetOf (intKind P w) a S n
  | .ins C dx fs => H dx = some (.own a) ∧ fs.length ≤ 1000 ∧ dx ≠ a ∧ h.get? a = some (PySem.W.instObj C dx) ∧
      ∃ mA, h.Ns1 dx mA ∧ (∀ f, RelO (fs.lookup f) (mA f)) ∧ PySem.Within mA (fs.map (·.1))
  | .own _ => ∃ o, h.get? a = some o
  | .xd fs => ∃ mA, h.Ns1 a mA ∧ ∀ f, RelO (fs.lookup f) (mA f)
  | .rng lo hi => ∃ t u v, h.get? a = some { cls := .type "range", data := .fields #[.int lo t, .int hi u, .int 1 v] }
  | .frz o u => h.get? a = some o ∧ ObjOk H h a u
  | .tbl ps => h.get? a = some { cls := .none, data := .fields ps }
  | .met f x => h.get? a = some (PySem.W.methodObj (.ref f) (.ref x))
  | .ext φ => φ h ∧ (∃ o, h.get? a = some o) ∧ ∀ h1 h2 : Heap, φ h1 → (∀ o, h1.get? a = some o → h2.get? a = some o) → φ h2
def HOk (H : Hp) (h : Heap) : Prop := ∀ a o, H a = some o → ObjOk P w H h a o
end
section
variable {P : Program} {w : World} {H H' : Hp} {h h' : Heap} {a : Addr} {o : HO}
theorem ObjOk.lt (x : ObjOk P w H h a o) : a < h.objs.size := by
  cases o with
  | lst xs => obtain ⟨_, _, _, _, e⟩ := x; exact Heap.lt_size e
  | tup xs => obtain ⟨_, _, _, p⟩ := x; exact p.lt
  | dK kvs => obtain ⟨_, _, _, _, o, _, _, e, _⟩ := x; exact Heap.lt_size e
  | dT kvs => obtain ⟨_, _, _, _, o, _, _, e, _⟩ := x; exact Heap.lt_size e
  | set S n => obtain ⟨o, _, _, _, e, _⟩ := x; exact Heap.lt_size e
  | ins C dx fs => obtain ⟨_, _, _, e, _⟩ := x; exact Heap.lt_size e
  | own y => obtain ⟨_, e⟩ := x; exact Heap.lt_size e
  | xd fs => obtain ⟨_, ⟨_, _, _, e, _⟩, _⟩ := x; exact Heap.lt_size e
  | rng lo hi => obtain ⟨_, _, _, e⟩ := x; exact Heap.lt_size e
  | frz ob u => obtain ⟨e, _⟩ := x; exact Heap.lt_size e
  | tbl ps => exact Heap.lt_size (show h.get? a = some _ from x)
  | met f y => exact Heap.lt_size (show h.get? a = some _ from x)
  | ext φ => obtain ⟨_, ⟨_, e⟩, _⟩ := x; exact Heap.lt_size e
theorem Paired.mapP {α β : Type} {F G : α → β → Prop} : ∀ {l₁ : List α} {l₂ : List β}, Paired F l₁ l₂ → (∀ a b, F a b → G a b) → Paired G l₁ l₂
  | _, _, .nil, _ => .nil
  | _, _, .cons r t, f => .cons (f _ _ r) (Paired.mapP t f)
theorem ObjOk.stay (x : ObjOk P w H h a o) (k : ∀ b u, (b = a ∨ H b = some (.own a)) → h.get? b = some u → h'.get? b = some u)
    (ho : ∀ b, H b = some (.own a) → H' b = some (.own a)) (ht : ∀ b xs, H b = some (.tup xs) → H' b = some (.tup xs)) : ObjOk P w H' h' a o := by
  induction o with
  | lst xs => obtain ⟨z, its, n, r, e⟩ := x; exact ⟨z, its, n, r, k _ _ (.inl rfl) e⟩
  | tup xs => obtain ⟨z, its, r, ob, e, c⟩ := x; exact ⟨z, its, r, ob, k _ _ (.inl rfl) e, c⟩
  | dK kvs => obtain ⟨z, y, vs, r, ob, es, ep, e, c⟩ := x; exact ⟨z, y, vs, r, ob, es, ep, k _ _ (.inl rfl) e, c⟩
  | dT kvs =>
    obtain ⟨z, y, xs, r, ob, es, ep, e, c⟩ := x
    exact ⟨z, y, xs, Paired.mapP r fun p q z => ⟨z.1, ht _ _ z.2.1, z.2.2⟩, ob, es, ep, k _ _ (.inl rfl) e, c⟩
  | set S n => obtain ⟨ob, es, ep, t, e, c⟩ := x; exact ⟨ob, es, ep, t, k _ _ (.inl rfl) e, c⟩
  | ins C dx fs =>
    obtain ⟨d, z, ne, e, mA, ⟨od, es, ep, e2, c⟩, r⟩ := x
    exact ⟨ho _ d, z, ne, k _ _ (.inl rfl) e, mA, ⟨od, es, ep, k _ _ (.inr d) e2, c⟩, r⟩
  | own y => obtain ⟨ob, e⟩ := x; exact ⟨ob, k _ _ (.inl rfl) e⟩
  | xd fs => obtain ⟨mA, ⟨od, es, ep, e, c⟩, r⟩ := x; exact ⟨mA, ⟨od, es, ep, k _ _ (.inl rfl) e, c⟩, r⟩
  | rng lo hi => obtain ⟨t, u, v, e⟩ := x; exact ⟨t, u, v, k _ _ (.inl rfl) e⟩
  | frz ob u ih => obtain ⟨e, q⟩ := x; exact ⟨k _ _ (.inl rfl) e, ih q⟩
  | tbl ps =>
    have e : h.get? a = some { cls := .none, data := .fields ps } := x
    show h'.get? a = some { cls := .none, data := .fields ps }
    exact k a _ (.inl rfl) e
  | met f y =>
    have e : h.get? a = some (PySem.W.methodObj (.ref f) (.ref y)) := x
    show h'.get? a = some (PySem.W.methodObj (.ref f) (.ref y))
    exact k a _ (.inl rfl) e
  | ext φ => obtain ⟨p, ⟨o, e⟩, st⟩ := x; exact ⟨st _ _ p fun o q => k _ _ (.inl rfl) q, ⟨o, k _ _ (.inl rfl) e⟩, st⟩
theorem HOk.lt (x : HOk P w H h) (e : H a = some o) : a < h.objs.size := (x a o e).lt
theorem HOk.fresh (x : HOk P w H h) (e : h.objs.size ≤ a) : H a = none := by
  cases q : H a with
  | none => rfl
  | some u => exact absurd (Nat.lt_of_lt_of_le (x.lt q) e) (Nat.lt_irrefl _)
theorem HOk.kept (x : HOk P w H h) (k : ∀ b u, h.get? b = some u → h'.get? b = some u) : HOk P w H h' := fun a o e =>
  (x a o e).stay (fun b u _ q => k b u q) (fun _ q => q) fun _ _ q => q
theorem HOk.laid (x : HOk P w H h) (k : ∀ b u, h.get? b = some u → h'.get? b = some u) (hp : h.objs.size ≤ a) (new : ObjOk P w (upd H a o) h' a o) : HOk P w (upd H a o) h' := fun b u e => by
  have hn := x.fresh hp
  by_cases hb : b = a
  · subst hb; rw [upd_same] at e; cases e; exact new
  · rw [upd_ne hb] at e
    exact (x b u e).stay (fun c v _ q => k c v q) (fun c q => by rw [upd_ne (ne_of_none q hn)]; exact q) fun c xs q => by rw [upd_ne (ne_of_none q hn)]; exact q
end
def Rd (H : Hp) (a : Addr) (u : HO) : Prop := H a = some u ∨ ∃ o, H a = some (.frz o u)
theorem Rd.of {H : Hp} {a : Addr} {u : HO} (h : H a = some u) : Rd H a u := .inl h
theorem Rd.ok {P : Program} {w : World} {H : Hp} {h : Heap} {a : Addr} {u : HO} (r : Rd H a u) (x : HOk P w H h) : ObjOk P w H h a u := by
  rcases r with r | ⟨o, r⟩
  · exact x a u r
  · obtain ⟨_, q⟩ := x a _ r
    exact q
def Mut : Option HO → Prop
  | some (.lst _) => True
  | some (.dK _) => True
  | some (.dT _) => True
  | some (.set _ _) => True
  | some (.ins _ _ _) => True
  | some (.ext _) => True
  | _ => False
section
variable {P : Program} {w : World} {H : Hp} {h h' : Heap} {x e : Addr} {o' : HO}
theorem HOk.write (ok : HOk P w H h) (mu : Mut (H x)) (he : e = x ∨ H e = some (.own x)) (k : ∀ b u, b ≠ e → h.get? b = some u → h'.get? b = some u) (heo : ∃ u, h'.get? e = some u)
    (new : ObjOk P w (upd H x o') h' x o') : HOk P w (upd H x o') h' := fun b u q => by
  have nown : ∀ c y, H c = some (.own y) → c ≠ x := fun c y r z => by subst z; rw [r] at mu; exact mu
  have ntup : ∀ c xs, H c = some (.tup xs) → c ≠ x := fun c xs r z => by subst z; rw [r] at mu; exact mu
  by_cases hb : b = x
  · subst hb; rw [upd_same] at q; cases q; exact new
  · rw [upd_ne hb] at q
    by_cases hbe : b = e
    · have q' : H b = some (.own x) := by
        rcases he with z | z
        · exact absurd (hbe.trans z) hb
        · rw [hbe]; exact z
      rw [q] at q'; cases q'
      obtain ⟨v, hv⟩ := heo
      exact ⟨v, by rw [hbe]; exact hv⟩
    · refine (ok b u q).stay (fun c v hc r => k c v ?_ r) (fun c r => by rw [upd_ne (nown c b r)]; exact r) fun c xs r => by rw [upd_ne (ntup c xs r)]; exact r
      rcases hc with rfl | hc
      · exact hbe
      · rintro rfl
        rcases he with z | z
        · exact nown c b hc z
        · rw [hc] at z; cases z; exact hb rfl
end
structure Un (fs ex : List Addr) (H H' : Hp) (h h' : Heap) : Prop where
  keep : ∀ b o, h.get? b = some o → H b = none → b ∉ fs → b ∉ ex → h'.get? b = some o
  slot : ∀ b o, h.get? b = some o → H b = none → b ∈ fs → b ∉ ex → ∃ sl, h'.get? b = some { o with slots := sl }
  free : ∀ b o, h.get? b = some o → H b = none → b ∉ ex → H' b = none
  there : ∀ b o, h.get? b = some o → b ∉ ex → ∃ o', h'.get? b = some o'
  tups : ∀ b xs, H b = some (.tup xs) → H' b = some (.tup xs)
  frzs : ∀ b o u, H b = some (.frz o u) → H' b = some (.frz o u)
  tbls : ∀ b ps, H b = some (.tbl ps) → ∃ more, H' b = some (.tbl (ps ++ more))
section
variable {fs fs' ex ex' : List Addr} {H H1 H2 : Hp} {h h1 h2 h' : Heap} {a x e : Addr} {o : HO}
theorem Un.any (u : Un fs ex H H1 h h1) {b : Addr} {ob : Obj} (q : h.get? b = some ob) (n : H b = none) (hx : b ∉ ex) : ∃ sl, h1.get? b = some { ob with slots := sl } := by
  by_cases hb : b ∈ fs
  · exact u.slot b ob q n hb hx
  · exact ⟨ob.slots, u.keep b ob q n hb hx⟩
theorem Un.kept (k : ∀ b u, h.get? b = some u → h'.get? b = some u) : Un fs ex H H h h' :=
  ⟨fun b ob q _ _ _ => k b ob q, fun b ob q _ _ _ => ⟨ob.slots, k b ob q⟩, fun _ _ _ n _ => n, fun b ob q _ => ⟨ob, k b ob q⟩, fun _ _ q => q, fun _ _ _ q => q, fun _ ps q => ⟨#[], by rw [q]; simp⟩⟩
theorem Un.refl : Un fs ex H H h h := Un.kept fun _ _ q => q
theorem Un.laid (k : ∀ b u, h.get? b = some u → h'.get? b = some u) (hp : h.objs.size ≤ a) (hn : H a = none) : Un fs ex H (upd H a o) h h' where
  keep := fun b u q _ _ _ => k b u q
  slot := fun b u q _ _ _ => ⟨u.slots, k b u q⟩
  free := fun b u q n _ => by rw [upd_ne (Nat.ne_of_lt (Nat.lt_of_lt_of_le (Heap.lt_size q) hp))]; exact n
  there := fun b u q _ => ⟨u, k b u q⟩
  tups := fun b xs q => by rw [upd_ne (ne_of_none q hn)]; exact q
  frzs := fun b u xs q => by rw [upd_ne (ne_of_none q hn)]; exact q
  tbls := fun b ps q => ⟨#[], by rw [upd_ne (ne_of_none q hn), q]; simp⟩
theorem Un.write (mu : Mut (H x)) (he : e = x ∨ H e = some (.own x)) (k : ∀ b u, b ≠ e → h.get? b = some u → h'.get? b = some u) (heo : ∃ u, h'.get? e = some u) : Un fs ex H (upd H x o) h h' := by
  have hx : ∀ b, H b = none → b ≠ x := fun b n z => by subst z; rw [n] at mu; exact mu
  have hb : ∀ b, H b = none → b ≠ e := fun b n z => by
    subst z
    rcases he with r | r
    · exact hx b n r
    · rw [n] at r; cases r
  have hm : ∀ b u, H b = some u → ¬ Mut (some u) → b ≠ x := fun b u q nm z => by subst z; rw [q] at mu; exact nm mu
  refine ⟨fun b u q n _ _ => k b u (hb b n) q, fun b u q n _ _ => ⟨u.slots, k b u (hb b n) q⟩, fun b u q n _ => by rw [upd_ne (hx b n)]; exact n, fun b u q _ => ?_,
    fun b xs q => by rw [upd_ne (hm b _ q fun z => z)]; exact q, fun b u xs q => by rw [upd_ne (hm b _ q fun z => z)]; exact q, fun b ps q => ⟨#[], by rw [upd_ne (hm b _ q fun z => z), q]; simp⟩⟩
  by_cases hbe : b = e
  · subst hbe; exact heo
  · exact ⟨u, k b u hbe q⟩
end
def trk (h : Heap) (H : Hp) : List Addr := (List.range h.objs.size).filter fun a => (H a).isSome
def hidT (h : Heap) (H : Hp) : Heap := PySem.W.hideAll h (trk h H)
theorem hidT_size (h : Heap) (H : Hp) : (hidT h H).objs.size = h.objs.size := PySem.W.hideAll_size _ _
theorem hidT_get {h : Heap} {H : Hp} {b : Addr} {o : Obj} (e : h.get? b = some o) (n : H b = none) : (hidT h H).get? b = some o :=
  PySem.W.hideAll_get _ e fun hm => by
    have q : (H b).isSome = true := (List.mem_filter.mp hm).2
    rw [n] at q; simp at q
theorem of_hidT {h : Heap} {H : Hp} {b : Addr} {o : Obj} (e : (hidT h H).get? b = some o) : h.get? b = some o ∧ H b = none := by
  have e' : h.get? b = some o := PySem.W.of_hideAll (trk h H) e
  refine ⟨e', ?_⟩
  cases q : H b with
  | none => rfl
  | some x =>
    have hm : b ∈ trk h H := List.mem_filter.mpr ⟨List.mem_range.mpr (Heap.lt_size e'), by simp [q]⟩
    have z : (hidT h H).get? b = none := PySem.W.hideAll_none (trk h H) hm
    rw [z] at e; cases e
def allNews (g h : Heap) (L : Addr) : List (Addr × Obj) := (List.range h.objs.size).filterMap fun a => if a = L ∨ (g.get? a).isSome = true then none else (h.get? a).map fun o => (a, o)
def rest (g h : Heap) (L d : Addr) : List (Addr × Obj) := (allNews g h L).filter fun p => decide (p.1 ≠ d)
end L2
namespace L2
open PySem PySem.Spec PyProof.Rows
structure Mod (K : PySem.W.Frag) (mg : Str → Option Value) (base : Heap) : Prop where
  kin : K.In base
  glob : base.Ns mainGlobals mg
  blt : ∃ mb, base.Ns builtinsNs mb ∧ ∀ x : Str, x ≠ "__name__" → mb x = bootBuiltins x
  nolimit : base.NoLimit
structure Cx where
  prog : Program
  w : World
  K : PySem.W.Frag
  mg : Str → Option Value
  base : Heap
  A : Around
  N : List Str
  s₀ : Shared
  H₀ : Hp
  env : Env
  outer : List Env
  stack : List Env
  ex : List Addr
  fn : Str → Bool
  calm : Bool
  pn : List (Addr × Obj)
  xe : Value → Shared → Prop
def frs (l : List Env) : List Addr := l.filterMap (·.frame)
abbrev Cx.fs (X : Cx) : List Addr := frs X.outer
def Vis (sc : Scope) (x : Str) : Prop := sc.names.lookup x = some .local ∨ sc.names.lookup x = some .cell ∨ sc.names.lookup x = some .free
def Loc (sc : Scope) (x : Str) : Prop := sc.names.lookup x = some .local ∨ sc.names.lookup x = some .cell
def Look (env : Env) (h : Heap) (m : Str → Option Value) (x : Str) (u : Value) : Prop :=
  (env.kindOf x = some .local ∧ m x = some u) ∨ ((env.kindOf x = some .cell ∨ env.kindOf x = some .free) ∧ ∃ c, env.cells.lookup x = some c ∧ h.IsCell c (some u))
structure Cx.Ok (X : Cx) : Prop where
  mod : Mod X.K X.mg X.base
  kind : X.env.scope.kind = .function
  glob : X.env.globals = mainGlobals
  blt : X.env.builtins = builtinsNs
  above : X.s₀.heap.objs.size ≤ X.env.locals
  inj : ∀ x y c, X.env.cells.lookup x = some c → X.env.cells.lookup y = some c → x = y
  has : ∀ x, (X.env.kindOf x = some .cell ∨ X.env.kindOf x = some .free) → ∃ c, X.env.cells.lookup x = some c
  cab : ∀ x c, X.fn x = true → X.env.cells.lookup x = some c → X.s₀.heap.objs.size ≤ c
  hd : X.calm = true → X.A.handled = none
  frames : X.A.frames = some X.stack
  stk : X.stack = X.outer ∨ (X.stack = X.env :: X.outer ∧ X.env.frame = some X.env.locals)
  exf : ∀ b ∈ X.ex, b ≠ X.env.locals ∧ ∀ x c, X.env.cells.lookup x = some c → c ≠ b
  bs : ∀ b o, X.base.get? b = some o → X.s₀.heap.get? b = some o ∧ X.H₀ b = none
  bsz : X.base.objs.size ≤ X.s₀.heap.objs.size
  noex : ∀ b o, X.base.get? b = some o → b ∉ X.ex
  exfs : ∀ b ∈ X.ex, b ∉ X.fs
  funs : X.s₀.heap.FunFrames X.base X.outer
  frf : ∀ b ∈ X.fs, X.H₀ b = none
structure Inv (X : Cx) (pins : List (Addr × Obj)) (σ : List (Option V)) (H : Hp) (s : Shared) : Prop where
  ok : X.Ok
  os : s.os = X.s₀.os
  bare : AllBare s.gens
  base : Un X.fs X.ex X.H₀ H X.s₀.heap s.heap
  loc : ∃ m, s.heap.Ns X.env.locals m ∧ ∀ (i : Nat) (x : Str) (v : V), X.N[i]? = some x → σ[i]? = some (some v) → Vis X.env.scope x → ∃ u, RelV v u ∧ Look X.env s.heap m x u
  cell : ∀ x c, X.env.cells.lookup x = some c → ∃ v, s.heap.IsCell c v
  free : H X.env.locals = none
  freeC : ∀ x c, X.env.cells.lookup x = some c → H c = none
  pin : ∀ p ∈ X.pn ++ pins, s.heap.get? p.1 = some p.2 ∧ H p.1 = none ∧ p.1 ≠ X.env.locals ∧ p.1 ∉ X.fs ∧ ∀ v, p.2.data ≠ .cell v
  hok : HOk X.prog X.w H s.heap
  len : σ.length = X.N.length
section
variable {X : Cx} {pins : List (Addr × Obj)} {σ : List (Option V)} {H H' : Hp} {s : Shared} {h' : Heap}
theorem Cx.Ok.nofr (ok : X.Ok) {b : Addr} {o : Obj} (e : X.base.get? b = some o) : b ∉ X.fs := fun hb => by
  have := (ok.funs.mem hb).1
  rw [e] at this; cases this
theorem Inv.bs (I : Inv X pins σ H s) : ∀ b o, X.base.get? b = some o → s.heap.get? b = some o ∧ H b = none := fun b o e =>
  ⟨I.base.keep b o (I.ok.bs b o e).1 (I.ok.bs b o e).2 (I.ok.nofr e) (I.ok.noex b o e), I.base.free b o (I.ok.bs b o e).1 (I.ok.bs b o e).2 (I.ok.noex b o e)⟩
theorem Inv.bk (I : Inv X pins σ H s) : ∀ b o, X.base.get? b = some o → s.heap.get? b = some o := fun b o e => (I.bs b o e).1
theorem Inv.mod (I : Inv X pins σ H s) : Mod X.K X.mg X.base := I.ok.mod
theorem Inv.kIn (I : Inv X pins σ H s) : X.K.In s.heap := I.ok.mod.kin.keeps I.bk
theorem Inv.fr (I : Inv X pins σ H s) : ∃ m, Fr X.base X.env.locals s.heap m :=
  let ⟨m, hn, _⟩ := I.loc
  ⟨m, hn, I.bk, Nat.le_trans I.ok.bsz I.ok.above⟩
theorem Inv.lt (I : Inv X pins σ H s) : X.env.locals < s.heap.objs.size := let ⟨_, hn, _⟩ := I.loc; hn.lt
theorem Inv.sz (I : Inv X pins σ H s) : X.s₀.heap.objs.size ≤ s.heap.objs.size := Nat.le_trans I.ok.above (Nat.le_of_lt I.lt)
theorem Inv.nofs (I : Inv X pins σ H s) {a : Addr} (h : s.heap.objs.size ≤ a) : a ∉ X.fs := fun hb => by
  obtain ⟨_, o, ho, _⟩ := I.ok.funs.mem hb
  exact absurd (Nat.lt_of_lt_of_le (Heap.lt_size ho) (Nat.le_trans I.sz h)) (Nat.lt_irrefl _)
theorem Inv.cne (I : Inv X pins σ H s) : ∀ x c, X.env.cells.lookup x = some c → c ≠ X.env.locals := fun x c e z => by
  obtain ⟨v, o, ho, hd⟩ := I.cell x c e
  obtain ⟨m, ⟨o', es, ep, ho', hd', _⟩, _⟩ := I.loc
  rw [z, ho'] at ho; cases ho; rw [hd'] at hd; cases hd
theorem Inv.funs (I : Inv X pins σ H s) : s.heap.FunFrames X.base X.outer := by
  have all : ∀ (l : List Env), (∀ b ∈ frs l, b ∈ X.fs) → X.s₀.heap.FunFrames X.base l → s.heap.FunFrames X.base l := by
    intro l
    induction l with
    | nil => intro _ _; trivial
    | cons env r ih =>
      intro hs hl
      obtain ⟨hk, ⟨L, o, hf, hn, ho, hd⟩, hr⟩ := hl
      have hL : L ∈ X.fs := hs L (by unfold frs; rw [List.filterMap_cons, hf]; exact List.mem_cons_self)
      obtain ⟨sl, e⟩ := I.base.slot L o ho (I.ok.frf L hL) hL fun z => I.ok.exfs L z hL
      exact ⟨hk, ⟨L, _, hf, hn, e, hd⟩, ih (fun b hb => hs b (by unfold frs; rw [List.filterMap_cons, hf]; exact List.mem_cons_of_mem _ hb)) hr⟩
  exact all X.outer (fun _ hb => hb) I.ok.funs
theorem Inv.stack (I : Inv X pins σ H s) : s.heap.FunFrames X.base X.stack := by
  rcases I.ok.stk with e | ⟨e, hf⟩
  · rw [e]; exact I.funs
  · rw [e]
    obtain ⟨m, hn, _⟩ := I.loc
    refine .cons (by rw [I.ok.kind]; decide) hf hn ?_ I.funs
    exact Heap.get?_none_of_le (Nat.le_trans I.ok.bsz I.ok.above)
theorem Inv.stkSub (I : Inv X pins σ H s) : ∀ b ∈ frs X.stack, b ∈ X.env.locals :: X.fs := fun b hb => by
  rcases I.ok.stk with e | ⟨e, hf⟩
  · rw [e] at hb; exact List.mem_cons_of_mem _ hb
  · rw [e] at hb
    unfold frs at hb
    rw [List.filterMap_cons, hf] at hb
    exact hb
theorem Inv.stkFree (I : Inv X pins σ H s) : ∀ b ∈ frs X.stack, H b = none := fun b hb => by
  rcases List.mem_cons.mp (I.stkSub b hb) with e | hb
  · rw [e]; exact I.free
  · obtain ⟨_, o, ho, _⟩ := I.ok.funs.mem hb
    exact I.base.free b o ho (I.ok.frf b hb) fun z => I.ok.exfs b z hb
theorem Inv.step {g' : Array GenState} {t' : Nat} {d' : Drawn} {ch : List Addr} (I : Inv X pins σ H s)
    (hch : ∀ b ∈ ch, (b ∈ X.ex ∨ X.s₀.heap.objs.size ≤ b) ∧ b ≠ X.env.locals ∧ (∀ x c, X.env.cells.lookup x = some c → c ≠ b) ∧ ∀ p ∈ X.pn ++ pins, p.1 ≠ b)
    (keep : ∀ b o, b ≠ X.env.locals → b ∉ X.fs → b ∉ ch → s.heap.get? b = some o → H b = none → h'.get? b = some o)
    (slot : ∀ b o, b ≠ X.env.locals → b ∈ X.fs → b ∉ ch → s.heap.get? b = some o → H b = none → ∃ sl, h'.get? b = some { o with slots := sl }) (free : ∀ b o, b ∉ ch → s.heap.get? b = some o → H b = none → H' b = none)
    (there : ∀ b o, b ∉ ch → s.heap.get? b = some o → ∃ o', h'.get? b = some o')
    (tups : ∀ b xs, H b = some (.tup xs) → H' b = some (.tup xs)) (frzs : ∀ b o u, H b = some (.frz o u) → H' b = some (.frz o u)) (tbls : ∀ b ps, H b = some (.tbl ps) → ∃ more, H' b = some (.tbl (ps ++ more)))
    (ns : ∀ m, s.heap.Ns X.env.locals m → h'.Ns X.env.locals m) (hok : HOk X.prog X.w H' h') (hg : AllBare g') :
    Inv X pins σ H' { s with heap := h', gens := g', drawn := d', toks := t' } := by
  have neL : ∀ b o, X.s₀.heap.get? b = some o → b ≠ X.env.locals := fun b o e => Nat.ne_of_lt (Nat.lt_of_lt_of_le (Heap.lt_size e) I.ok.above)
  have neC : ∀ b o, X.s₀.heap.get? b = some o → b ∉ X.ex → b ∉ ch := fun b o e hx hb => by
    rcases (hch b hb).1 with z | z
    · exact hx z
    · exact absurd (Nat.lt_of_lt_of_le (Heap.lt_size e) z) (Nat.lt_irrefl _)
  have cellK : ∀ x c, X.env.cells.lookup x = some c → ∀ v, s.heap.IsCell c v → h'.IsCell c v := fun x c e v ⟨o, ho, hd⟩ => by
    have nch : c ∉ ch := fun z => (hch c z).2.2.1 x c e rfl
    by_cases hc : c ∈ X.fs
    · obtain ⟨sl, q⟩ := slot c o (I.cne x c e) hc nch ho (I.freeC x c e)
      exact ⟨_, q, hd⟩
    · exact ⟨o, keep c o (I.cne x c e) hc nch ho (I.freeC x c e), hd⟩
  refine ⟨I.ok, I.os, hg, ⟨fun b o e n hb hx => ?_, fun b o e n hb hx => ?_, fun b o e n hx => ?_, fun b o e hx => ?_, fun b xs e => tups b xs (I.base.tups b xs e), fun b o xs e => frzs b o xs (I.base.frzs b o xs e), fun b ps e => ?_⟩, ?_, fun x c e => ?_, ?_, fun x c e => ?_, fun p hp => ?_, hok, I.len⟩
  · exact keep b o (neL b o e) hb (neC b o e hx) (I.base.keep b o e n hb hx) (I.base.free b o e n hx)
  · obtain ⟨sl, e1⟩ := I.base.slot b o e n hb hx
    obtain ⟨sl', e2⟩ := slot b _ (neL b o e) hb (neC b o e hx) e1 (I.base.free b o e n hx)
    exact ⟨sl', e2⟩
  · obtain ⟨o', e1⟩ := I.base.there b o e hx
    exact free b o' (neC b o e hx) e1 (I.base.free b o e n hx)
  · obtain ⟨o', e1⟩ := I.base.there b o e hx
    exact there b o' (neC b o e hx) e1
  · obtain ⟨m1, e1⟩ := I.base.tbls b ps e
    obtain ⟨m2, e2⟩ := tbls b _ e1
    exact ⟨m1 ++ m2, by rw [e2, Array.append_assoc]⟩
  · obtain ⟨m, hn, hl⟩ := I.loc
    refine ⟨m, ns m hn, fun i x v e1 e2 e3 => ?_⟩
    obtain ⟨u, r, l⟩ := hl i x v e1 e2 e3
    refine ⟨u, r, ?_⟩
    rcases l with l | ⟨k, c, e, z⟩
    · exact .inl l
    · exact .inr ⟨k, c, e, cellK x c e _ z⟩
  · obtain ⟨v, z⟩ := I.cell x c e
    exact ⟨v, cellK x c e v z⟩
  · obtain ⟨m, ⟨o, _, _, ho, _⟩, _⟩ := I.loc
    exact free _ o (fun z => (hch _ z).2.1 rfl) ho I.free
  · obtain ⟨v, o, ho, hd⟩ := I.cell x c e
    exact free c o (fun z => (hch c z).2.2.1 x c e rfl) ho (I.freeC x c e)
  · obtain ⟨e, n, ne, nf, d⟩ := I.pin p hp
    have nch : p.1 ∉ ch := fun z => (hch p.1 z).2.2.2 p hp rfl
    exact ⟨keep p.1 p.2 ne nf nch e n, free p.1 p.2 nch e n, ne, nf, d⟩
theorem Inv.un {t' : Nat} (I : Inv X pins σ H s) (u : Un X.fs [] H H' s.heap h') (hok : HOk X.prog X.w H' h') : Inv X pins σ H' { s with heap := h', toks := t' } := by
  obtain ⟨m, ⟨o, es, ep, ho, r⟩, _⟩ := id I.loc
  obtain ⟨sl, hL⟩ := u.any ho I.free (by simp)
  exact I.step (g' := s.gens) (d' := s.drawn) (ch := []) (fun _ z => nomatch z) (fun b o _ hb _ e n => u.keep b o e n hb (by simp)) (fun b o _ hb _ e n => u.slot b o e n hb (by simp)) (fun b o _ e n => u.free b o e n (by simp)) (fun b o _ e => u.there b o e (by simp)) u.tups u.frzs u.tbls (fun m' hm => by
    obtain ⟨o', es', ep', ho', r'⟩ := hm
    rw [ho] at ho'; cases ho'
    exact ⟨_, es', ep', hL, r'⟩) hok I.bare
theorem Inv.call {g' : Array GenState} {t' : Nat} {d' : Drawn} {ch : List Addr} (I : Inv X pins σ H s) (u : Un (frs X.stack) ch H H' s.heap h') (hok : HOk X.prog X.w H' h') (hg : AllBare g')
    (hch : ∀ b ∈ ch, (b ∈ X.ex ∨ X.s₀.heap.objs.size ≤ b) ∧ b ≠ X.env.locals ∧ (∀ x c, X.env.cells.lookup x = some c → c ≠ b) ∧ ∀ p ∈ X.pn ++ pins, p.1 ≠ b) :
    Inv X pins σ H' { s with heap := h', gens := g', drawn := d', toks := t' } := by
  obtain ⟨m, ⟨o, es, ep, ho, r⟩, _⟩ := id I.loc
  obtain ⟨sl, hL⟩ := u.any ho I.free fun z => (hch _ z).2.1 rfl
  exact I.step (ch := ch) hch (fun b o hL hb hc e n => u.keep b o e n (fun z => (List.mem_cons.mp (I.stkSub b z)).elim hL hb) hc) (fun b o _ _ hc e n => u.any e n hc) (fun b o hc e n => u.free b o e n hc) (fun b o hc e => u.there b o e hc) u.tups u.frzs u.tbls (fun m' hm => by
    obtain ⟨o', es', ep', ho', r'⟩ := hm
    rw [ho] at ho'; cases ho'
    exact ⟨_, es', ep', hL, r'⟩) hok hg
theorem Inv.turned {t' : Nat} {it : Addr} (I : Inv X pins σ H s) (k : ∀ b o, b ≠ it → s.heap.get? b = some o → h'.get? b = some o) (hn : H it = none) (hL : it ≠ X.env.locals)
    (h1 : it ∈ X.ex ∨ X.s₀.heap.objs.size ≤ it) (h2 : ∀ x c, X.env.cells.lookup x = some c → c ≠ it) (h3 : ∀ p ∈ X.pn ++ pins, p.1 ≠ it) : Inv X pins σ H { s with heap := h', toks := t' } := by
  have nit : ∀ b u, H b = some u → b ≠ it := fun b u e z => by rw [z, hn] at e; cases e
  refine I.step (g' := s.gens) (d' := s.drawn) (ch := [it]) (fun b hb => ?_) (fun b o _ _ hc e _ => k b o (fun z => hc (by simp [z])) e) (fun b o _ _ hc e _ => ⟨o.slots, k b o (fun z => hc (by simp [z])) e⟩) (fun _ _ _ _ n => n)
    (fun b o hc e => ⟨o, k b o (fun z => hc (by simp [z])) e⟩) (fun _ _ e => e) (fun _ _ _ e => e) (fun b ps e => ⟨#[], by rw [e]; simp⟩) (fun m hm => ?_) (fun b u e => ?_) I.bare
  · have e : b = it := by simpa using hb
    subst e
    exact ⟨h1, hL, h2, h3⟩
  · obtain ⟨o, es, ep, ho, r⟩ := hm
    exact ⟨o, es, ep, k _ o (Ne.symm hL) ho, r⟩
  · refine (I.hok b u e).stay (fun c v hc q => k c v ?_ q) (fun _ q => q) fun _ _ q => q
    rcases hc with z | z
    · rw [z]; exact nit b u e
    · exact nit c _ z
theorem Inv.tok (I : Inv X pins σ H s) (t : Nat) : Inv X pins σ H { s with toks := t } := I.un (h' := s.heap) (t' := t) Un.refl I.hok
theorem Inv.kept {t' : Nat} (I : Inv X pins σ H s) (k : ∀ b u, s.heap.get? b = some u → h'.get? b = some u) : Inv X pins σ H { s with heap := h', toks := t' } := I.un (Un.kept k) (I.hok.kept k)
theorem Inv.laid {a : Addr} {o : HO} {t' : Nat} (I : Inv X pins σ H s) (k : ∀ b u, s.heap.get? b = some u → h'.get? b = some u) (hp : s.heap.objs.size ≤ a) (new : ObjOk X.prog X.w (upd H a o) h' a o) :
    Inv X pins σ (upd H a o) { s with heap := h', toks := t' } := I.un (Un.laid k hp (I.hok.fresh hp)) (I.hok.laid k hp new)
theorem Inv.write {x e : Addr} {o : HO} {t' : Nat} (I : Inv X pins σ H s) (mu : Mut (H x)) (he : e = x ∨ H e = some (.own x)) (k : ∀ b u, b ≠ e → s.heap.get? b = some u → h'.get? b = some u) (heo : ∃ u, h'.get? e = some u)
    (new : ObjOk X.prog X.w (upd H x o) h' x o) : Inv X pins σ (upd H x o) { s with heap := h', toks := t' } := I.un (Un.write mu he k heo) (I.hok.write mu he k heo new)
theorem Inv.weak {σ' : List (Option V)} (I : Inv X pins σ H s) (hl : σ'.length = σ.length) (w : ∀ (i : Nat) v, σ'[i]? = some (some v) → σ[i]? = some (some v)) : Inv X pins σ' H s :=
  ⟨I.ok, I.os, I.bare, I.base, let ⟨m, hn, hl'⟩ := I.loc; ⟨m, hn, fun i x v e1 e2 e3 => hl' i x v e1 (w i v e2) e3⟩, I.cell, I.free, I.freeC, I.pin, I.hok, hl.trans I.len⟩
theorem Inv.pins_of {pins' : List (Addr × Obj)} (I : Inv X pins σ H s) (h : ∀ p ∈ pins', s.heap.get? p.1 = some p.2 ∧ H p.1 = none ∧ p.1 ≠ X.env.locals ∧ p.1 ∉ X.fs ∧ ∀ v, p.2.data ≠ .cell v) : Inv X pins' σ H s :=
  ⟨I.ok, I.os, I.bare, I.base, I.loc, I.cell, I.free, I.freeC, fun p hp => (List.mem_append.mp hp).elim (fun z => I.pin p (List.mem_append_left _ z)) (h p), I.hok, I.len⟩
theorem nodup_ix {N : List Str} (hN : N.Nodup) {i j : Nat} {x : Str} (a : N[i]? = some x) (b : N[j]? = some x) : i = j := by
  obtain ⟨h1, e1⟩ := List.getElem?_eq_some_iff.mp a
  obtain ⟨h2, e2⟩ := List.getElem?_eq_some_iff.mp b
  exact (List.getElem_inj hN).mp (e1.trans e2.symm)
theorem store_ok2 {M : Model} {A : Around} {E : Value → Shared → Prop} {i : Nat} {x : Str} {v : V} {u : Value} {Q : Unit → Shared → Prop} (I : Inv X pins σ H s) (hN : X.N.Nodup) (hi : X.N[i]? = some x) (hx : Loc X.env.scope x) (r : RelV v u)
    (h : ∀ s', Inv X pins (σ.set i (some v)) H s' → (∃ a, Heap.SameBut a s.heap s'.heap ∧ (a = X.env.locals ∨ X.env.cells.lookup x = some a)) → Q () s') (hf : X.fn x = true ∨ X.env.scope.names.lookup x = some .local := by first | exact .inl rfl | exact .inr rfl | assumption) : wpAny M A (storeName X.env x u) Q E s := by
  obtain ⟨m, hn, hl⟩ := id I.loc
  have hcls : (X.env.scope.kind == .class || (X.env.scope.kind == .module && X.env.locals != X.env.globals)) = false := by rw [I.ok.kind]; rfl
  have hiσ : i < σ.length := by rw [I.len]; exact (List.getElem?_eq_some_iff.mp hi).1
  have cne := I.cne
  have tracked : ∀ {a : Addr} {h' : Heap}, (∃ o, s.heap.get? a = some o ∧ H a = none) → Heap.SameBut a s.heap h' → HOk X.prog X.w H h' := fun {a h'} ha hs b ob e => by
    obtain ⟨_, _, hfree⟩ := ha
    refine (I.hok b ob e).stay (fun c w' hc q => (hs.2 c ?_).trans q) (fun _ q => q) fun _ _ q => q
    rintro rfl
    rcases hc with rfl | hc
    · rw [hfree] at e; cases e
    · rw [hfree] at hc; cases hc
  rcases hx with hk | hk
  · refine wpAny_storeName_local hk hn (fun h' hn' hs => ?_) hcls
    obtain ⟨oL, _, _, hoL, _⟩ := id hn
    refine h _ ⟨I.ok, I.os, I.bare, ⟨fun b o e n hb hx => ?_, fun b o e n hb hx => ?_, I.base.free, fun b o e hx => ?_, I.base.tups, I.base.frzs, I.base.tbls⟩, ⟨_, hn', fun j y v' e1 e2 e3 => ?_⟩, fun y c e => ?_, I.free, I.freeC, fun p hp => ?_, tracked ⟨oL, hoL, I.free⟩ hs, by simpa using I.len⟩ ⟨_, hs, .inl rfl⟩
    · exact (hs.2 b (Nat.ne_of_lt (Nat.lt_of_lt_of_le (Heap.lt_size e) I.ok.above))).trans (I.base.keep b o e n hb hx)
    · obtain ⟨sl, e1⟩ := I.base.slot b o e n hb hx
      exact ⟨sl, (hs.2 b (Nat.ne_of_lt (Nat.lt_of_lt_of_le (Heap.lt_size e) I.ok.above))).trans e1⟩
    · obtain ⟨o', e1⟩ := I.base.there b o e hx
      exact ⟨o', (hs.2 b (Nat.ne_of_lt (Nat.lt_of_lt_of_le (Heap.lt_size e) I.ok.above))).trans e1⟩
    · by_cases hj : j = i
      · subst hj
        rw [hi] at e1; cases e1
        rw [List.getElem?_set_self hiσ] at e2
        cases e2
        exact ⟨u, r, .inl ⟨hk, by simp⟩⟩
      · rw [List.getElem?_set_ne (Ne.symm hj)] at e2
        obtain ⟨u', r', q⟩ := hl j y v' e1 e2 e3
        refine ⟨u', r', ?_⟩
        rcases q with ⟨k, e⟩ | ⟨k, c, e, z⟩
        · refine .inl ⟨k, ?_⟩
          have : y ≠ x := fun e => hj (nodup_ix hN e1 (e ▸ hi))
          simp [this, e]
        · exact .inr ⟨k, c, e, z.sameBut hs (cne y c e)⟩
    · obtain ⟨w', z⟩ := I.cell y c e
      exact ⟨w', z.sameBut hs (cne y c e)⟩
    · obtain ⟨e, n, ne, nf, d⟩ := I.pin p hp
      exact ⟨(hs.2 p.1 ne).trans e, n, ne, nf, d⟩
  · have hfn : X.fn x = true := by
      rcases hf with z | z
      · exact z
      · rw [z] at hk; cases hk
    obtain ⟨c, hc⟩ := I.ok.has x (.inl hk)
    obtain ⟨w', z⟩ := I.cell x c hc
    refine wpAny_storeName_cell I.ok.kind hk hc z (fun h' hc' hs => ?_)
    obtain ⟨oc, hoc, hocd⟩ := id z
    refine h { s with heap := h' } ⟨I.ok, I.os, I.bare, ⟨fun b o e n hb hx => ?_, fun b o e n hb hx => ?_, I.base.free, fun b o e hx => ?_, I.base.tups, I.base.frzs, I.base.tbls⟩, ⟨m, hn.sameBut hs (Ne.symm (cne x c hc)), fun j y v' e1 e2 e3 => ?_⟩, fun y c' e => ?_, I.free, I.freeC, fun p hp => ?_, tracked ⟨oc, hoc, I.freeC x c hc⟩ hs, by simpa using I.len⟩ ⟨c, hs, .inr hc⟩
    · exact (hs.2 b (Nat.ne_of_lt (Nat.lt_of_lt_of_le (Heap.lt_size e) (I.ok.cab x c hfn hc)))).trans (I.base.keep b o e n hb hx)
    · obtain ⟨sl, e1⟩ := I.base.slot b o e n hb hx
      exact ⟨sl, (hs.2 b (Nat.ne_of_lt (Nat.lt_of_lt_of_le (Heap.lt_size e) (I.ok.cab x c hfn hc)))).trans e1⟩
    · obtain ⟨o', e1⟩ := I.base.there b o e hx
      exact ⟨o', (hs.2 b (Nat.ne_of_lt (Nat.lt_of_lt_of_le (Heap.lt_size e) (I.ok.cab x c hfn hc)))).trans e1⟩
    · by_cases hj : j = i
      · subst hj
        rw [hi] at e1; cases e1
        rw [List.getElem?_set_self hiσ] at e2
        cases e2
        exact ⟨u, r, .inr ⟨.inl hk, c, hc, hc'⟩⟩
      · rw [List.getElem?_set_ne (Ne.symm hj)] at e2
        obtain ⟨u', r', q⟩ := hl j y v' e1 e2 e3
        refine ⟨u', r', ?_⟩
        rcases q with q | ⟨k, c', e, z'⟩
        · exact .inl q
        · refine .inr ⟨k, c', e, z'.sameBut hs ?_⟩
          rintro rfl
          exact hj (nodup_ix hN e1 (I.ok.inj _ _ _ e hc ▸ hi))
    · by_cases hcc : c' = c
      · subst hcc; exact ⟨_, hc'⟩
      · obtain ⟨w2, z2⟩ := I.cell y c' e
        exact ⟨w2, z2.sameBut hs hcc⟩
    · obtain ⟨e, n, ne, nf, d⟩ := I.pin p hp
      refine ⟨(hs.2 p.1 ?_).trans e, n, ne, nf, d⟩
      intro q
      rw [q, hoc] at e
      have q' : oc = p.2 := Option.some.inj e
      exact d w' (by rw [← q']; exact hocd)
theorem store_ok {M : Model} {A : Around} {E : Value → Shared → Prop} {i : Nat} {x : Str} {v : V} {u : Value} {Q : Unit → Shared → Prop} (I : Inv X pins σ H s) (hN : X.N.Nodup) (hi : X.N[i]? = some x) (hx : Loc X.env.scope x) (r : RelV v u)
    (h : ∀ s', Inv X pins (σ.set i (some v)) H s' → Q () s') (hf : X.fn x = true ∨ X.env.scope.names.lookup x = some .local := by first | exact .inl rfl | exact .inr rfl | assumption) : wpAny M A (storeName X.env x u) Q E s :=
  store_ok2 I hN hi hx r (fun s' I' _ => h s' I') hf
theorem Inv.call' {s' : Shared} {ch : List Addr} (I : Inv X pins σ H s) (ho : s'.os = s.os) (u : Un (frs X.stack) ch H H' s.heap s'.heap) (hok : HOk X.prog X.w H' s'.heap) (hg : AllBare s'.gens)
    (hch : ∀ b ∈ ch, (b ∈ X.ex ∨ X.s₀.heap.objs.size ≤ b) ∧ b ≠ X.env.locals ∧ (∀ x c, X.env.cells.lookup x = some c → c ≠ b) ∧ ∀ p ∈ X.pn ++ pins, p.1 ≠ b) : Inv X pins σ H' s' := by
  obtain ⟨h', g', d', t', o'⟩ := s'
  have e : o' = s.os := ho
  subst e
  exact I.call (g' := g') (t' := t') (d' := d') u hok hg hch
end
abbrev XK := Value → Option Addr → Hp → Prop
abbrev St := List (Option V)
abbrev VK := V → Hp → Prop
abbrev TE := St → Hp → VK → Prop
abbrev TT := St → Hp → (Bool → Hp → Prop) → Prop
abbrev TA := St → Hp → (List V → Hp → Prop) → Prop
structure Ends where
  nx : St → Hp → Prop
  rt : VK
  bk : St → Hp → Prop := fun _ _ => False
  ct : St → Hp → Prop := fun _ _ => False
abbrev TS := Ends → St → Hp → Prop
def EP (X : Cx) (pins : List (Addr × Obj)) (σ : St) (Q : VK) (u : Value) (s' : Shared) : Prop := ∃ v H', Inv X pins σ H' s' ∧ RelV v u ∧ Q v H'
def TP (X : Cx) (pins : List (Addr × Obj)) (σ : St) (Q : Bool → Hp → Prop) (b : Bool) (s' : Shared) : Prop := ∃ H', Inv X pins σ H' s' ∧ Q b H'
def AP (X : Cx) (pins : List (Addr × Obj)) (σ : St) (Q : List V → Hp → Prop) (us : List Value) (s' : Shared) : Prop := ∃ vs H', Inv X pins σ H' s' ∧ Vals vs us ∧ Q vs H'
def SP (X : Cx) (pins : List (Addr × Obj)) (D : Ends) (f : Flow) (s' : Shared) : Prop :=
  match f with
  | .next => ∃ σ' H', Inv X pins σ' H' s' ∧ D.nx σ' H'
  | .brk => ∃ σ' H', Inv X pins σ' H' s' ∧ D.bk σ' H'
  | .cont => ∃ σ' H', Inv X pins σ' H' s' ∧ D.ct σ' H'
  | .ret u => ∃ v σ' H', Inv X pins σ' H' s' ∧ RelV v u ∧ D.rt v H'
def PE (X : Cx) (e : Expr) (t : TE) : Prop :=
  ∀ (pins : List (Addr × Obj)) (s : Shared) (σ : St) (H : Hp) (Q : VK), Inv X pins σ H s → t σ H Q → wpAny (model X.prog X.w) X.A (eval e X.env) (EP X pins σ Q) X.xe s
def PT (X : Cx) (e : Expr) (t : TT) : Prop :=
  ∀ (pins : List (Addr × Obj)) (s : Shared) (σ : St) (H : Hp) (Q : Bool → Hp → Prop), Inv X pins σ H s → t σ H Q → wpAny (model X.prog X.w) X.A (isTrue e X.env (eval e X.env)) (TP X pins σ Q) X.xe s
def PW (X : Cx) (e : Expr) (t : TT) : Prop :=
  ∀ (whole : Sem Value) (pins : List (Addr × Obj)) (s : Shared) (σ : St) (H : Hp) (Q : Bool → Hp → Prop), Inv X pins σ H s → t σ H Q → wpAny (model X.prog X.w) X.A (isTrue e X.env whole) (TP X pins σ Q) X.xe s
theorem PW.pt {X : Cx} {e : Expr} {t : TT} (h : PW X e t) : PT X e t := h _
def PA (X : Cx) (es : List Expr) (t : TA) : Prop :=
  ∀ (pos : Pos) (pins : List (Addr × Obj)) (s : Shared) (σ : St) (H : Hp) (Q : List V → Hp → Prop), Inv X pins σ H s → t σ H Q → wpAny (model X.prog X.w) X.A (spliced (backTo pos (starEach es X.env))) (AP X pins σ Q) X.xe s
def PS (X : Cx) (st : Stmt) (t : TS) : Prop :=
  ∀ (pins : List (Addr × Obj)) (s : Shared) (σ : St) (H : Hp) (D : Ends), Inv X pins σ H s → t D σ H → wpAny (model X.prog X.w) X.A (exec st X.env) (SP X pins D) X.xe s
def PSs (X : Cx) (st : List Stmt) (t : TS) : Prop :=
  ∀ (pins : List (Addr × Obj)) (s : Shared) (σ : St) (H : Hp) (D : Ends), Inv X pins σ H s → t D σ H → wpAny (model X.prog X.w) X.A (execs st X.env) (SP X pins D) X.xe s
theorem thn {α : Type} {t : Sem α} {Q Q' : α → Shared → Prop} {M : Model} {A : Around} {E : Value → Shared → Prop} {s : Shared} (h : wpAny M A t Q E s) (hQ : ∀ a s, Q a s → Q' a s) : wpAny M A t Q' E s := wpAny_mono h hQ fun _ _ x => x
end L2
namespace L2
open PySem PySem.Spec PyProof.Rows
section
variable {X : Cx}
theorem bin {a b : Expr} {ta tb : TE} (ha : PE X a ta) (hb : PE X b tb) {pins : List (Addr × Obj)} {s : Shared} {σ : St} {H : Hp} {R : V → V → Hp → Prop} (I : Inv X pins σ H s) (h : ta σ H fun x H1 => tb σ H1 fun y H2 => R x y H2)
    {α : Type} {Q : α → Shared → Prop} {f : Value → Value → Sem α}
    (hf : ∀ v u s2 x y H2, Inv X pins σ H2 s2 → RelV x v → RelV y u → R x y H2 → wpAny (model X.prog X.w) X.A (f v u) Q X.xe s2) :
    wpAny (model X.prog X.w) X.A (eval a X.env) (fun v s₁ => wpAny (model X.prog X.w) X.A (eval b X.env) (fun u s₂ => wpAny (model X.prog X.w) X.A (f v u) Q X.xe s₂) X.xe s₁) X.xe s := by
  refine thn (ha pins s σ H _ I h) fun v s1 ⟨x, H1, I1, r1, q1⟩ => ?_
  refine thn (hb pins s1 σ H1 _ I1 q1) fun u s2 ⟨y, H2, I2, r2, q2⟩ => ?_
  exact hf v u s2 x y H2 I2 r1 r2 q2
def tVar (i : Nat) : TE := fun σ H Q => ∃ v, σ[i]? = some (some v) ∧ Q v H
def tC (v : V) : TE := fun _ H Q => Q v H
theorem pe_var {i : Nat} {x : Str} {pos : Pos} (hN : X.N[i]? = some x) (hv : Vis X.env.scope x) (hd : (x == ("__debug__" : Str)) = false := by decide) (hcd : (x == ("__classdict__" : Str)) = false := by decide) : PE X (.Name x pos) (tVar i) := by
  intro pins s σ H Q I h
  obtain ⟨v, e, h⟩ := h
  obtain ⟨m, hn, hl⟩ := I.loc
  obtain ⟨u, r, l⟩ := hl i x v hN e hv
  have fin : EP X pins σ Q u s := ⟨v, H, I, r, h⟩
  rcases l with ⟨hk, hm⟩ | ⟨hk, c, hc, hcell⟩
  · exact wpAny_Name (wpAny_loadName_local I.ok.kind hk hn hm fin) hd
  · rcases hk with hk | hk
    · exact wpAny_Name (wpAny_loadName_cell I.ok.kind hk hc hcell fin) hd
    · exact wpAny_Name (wpAny_loadName_free I.ok.kind hk hc hcell fin hcd) hd
theorem pe_int {i j pos} : PE X (.Constant (.int i) j pos) (tC (.int i)) := fun _ _ _ H _ I h => wpAny_Constant_int ⟨.int i, H, I.tok _, ⟨_, rfl⟩, h⟩
theorem pe_bl {b j pos} : PE X (.Constant (.bool b) j pos) (tC (.bl b)) := fun _ _ _ H _ I h => Constant_bool ⟨.bl b, H, I, rfl, h⟩
theorem pe_non {j pos} : PE X (.Constant .none j pos) (tC .non) := fun _ _ _ H _ I h => Constant_none ⟨.non, H, I, rfl, h⟩
theorem pe_str {x j pos} : PE X (.Constant (.str x) j pos) (tC (.str x)) := fun _ _ _ H _ I h => Calls.Constant_str ⟨.str x, H, I.tok _, ⟨_, rfl⟩, h⟩
def Gl (X : Cx) (x : Str) : Prop := X.env.kindOf x = some .globalImplicit
theorem ld_glob {E : Value → Shared → Prop} {pins : List (Addr × Obj)} {s : Shared} {σ : St} {H : Hp} {x : Str} {u : Value} {pos : Pos} {Q : Value → Shared → Prop} (I : Inv X pins σ H s) (hg : Gl X x) (hm : X.mg x = some u) (h : Q u s)
    (hd : (x == ("__debug__" : Str)) = false := by decide) : wpAny (model X.prog X.w) X.A (eval (.Name x pos) X.env) Q E s :=
  Calls.Name_function_global I.ok.kind hg (Calls.loadGlobal_global (by rw [I.ok.glob]; exact I.mod.glob.keeps I.bk) hm h) hd
theorem ld_blt {E : Value → Shared → Prop} {pins : List (Addr × Obj)} {s : Shared} {σ : St} {H : Hp} {x : Str} {u : Value} {pos : Pos} {Q : Value → Shared → Prop} (I : Inv X pins σ H s) (hg : Gl X x) (hm : X.mg x = none) (hv : bootBuiltins x = some u) (h : Q u s)
    (hn : x ≠ "__name__" := by decide) (hd : (x == ("__debug__" : Str)) = false := by decide) : wpAny (model X.prog X.w) X.A (eval (.Name x pos) X.env) Q E s := by
  obtain ⟨mb, h1, h2⟩ := I.mod.blt
  exact Calls.Name_function_global I.ok.kind hg (Calls.loadGlobal_builtin (by rw [I.ok.glob]; exact I.mod.glob.keeps I.bk) hm (by rw [I.ok.blt]; exact h1.keeps I.bk) ((h2 x hn).trans hv) h) hd
theorem pe_glob {x : Str} {v : V} {u : Value} {pos : Pos} (hg : Gl X x) (hm : X.mg x = some u) (r : RelV v u) (hd : (x == ("__debug__" : Str)) = false := by decide) : PE X (.Name x pos) (tC v) :=
  fun _ _ _ H _ I h => ld_glob I hg hm ⟨v, H, I, r, h⟩ hd
theorem pe_bltn {x : Str} {v : V} {u : Value} {pos : Pos} (hg : Gl X x) (hm : X.mg x = none) (hv : bootBuiltins x = some u) (r : RelV v u) (hn : x ≠ "__name__" := by decide) (hd : (x == ("__debug__" : Str)) = false := by decide) : PE X (.Name x pos) (tC v) :=
  fun _ _ _ H _ I h => ld_blt I hg hm hv ⟨v, H, I, r, h⟩ hn hd
variable {a b : Expr} {ta tb : TE} {pos : Pos}
variable {tA tB' : TT} {rest : List Expr}
def tAnd (t u : TT) : TT := fun σ H Q => t σ H fun c H1 => if c = true then u σ H1 Q else Q false H1
def tOr (t u : TT) : TT := fun σ H Q => t σ H fun c H1 => if c = true then Q true H1 else u σ H1 Q
def tNot (t : TT) : TT := fun σ H Q => t σ H fun c H1 => Q (!c) H1
theorem pw_and1 (ha : PT X a tA) : PW X (.BoolOp .And [a] pos) tA := by
  intro wh pins s σ H Q I h
  refine isTrue_and (thn (ha pins s σ H Q I h) fun c s1 e => ?_)
  cases c with
  | true => exact isTrue_and_nil e
  | false => exact e
theorem pw_or1 (ha : PT X a tA) : PW X (.BoolOp .Or [a] pos) tA := by
  intro wh pins s σ H Q I h
  refine isTrue_or (thn (ha pins s σ H Q I h) fun c s1 e => ?_)
  cases c with
  | false => exact isTrue_or_nil e
  | true => exact e
theorem pw_and (ha : PT X a tA) (hb : PW X (.BoolOp .And (b :: rest) pos) tB') : PW X (.BoolOp .And (a :: b :: rest) pos) (tAnd tA tB') := by
  intro wh pins s σ H Q I h
  refine isTrue_and (thn (ha pins s σ H _ I h) fun c s1 ⟨H1, I1, q1⟩ => ?_)
  cases c with
  | true => exact hb wh pins s1 σ H1 Q I1 q1
  | false => exact ⟨H1, I1, q1⟩
theorem pw_or (ha : PT X a tA) (hb : PW X (.BoolOp .Or (b :: rest) pos) tB') : PW X (.BoolOp .Or (a :: b :: rest) pos) (tOr tA tB') := by
  intro wh pins s σ H Q I h
  refine isTrue_or (thn (ha pins s σ H _ I h) fun c s1 ⟨H1, I1, q1⟩ => ?_)
  cases c with
  | true => exact ⟨H1, I1, q1⟩
  | false => exact hb wh pins s1 σ H1 Q I1 q1
theorem pt_not (ha : PT X a tA) : PT X (.UnaryOp .Not a pos) (tNot tA) := by
  intro pins s σ H Q I h
  exact isTrue_not (ha pins s σ H (fun c H1 => Q (!c) H1) I h)
def tAndV (ta tb : TE) : TE := fun σ H Q => ta σ H fun x H1 => ∃ c, x = .bl c ∧ if c = true then tb σ H1 Q else Q (.bl false) H1
def tNotV (ta : TE) : TE := fun σ H Q => ta σ H fun x H1 => ∃ c, x = .bl c ∧ Q (.bl (!c)) H1
theorem pe_one {op} {t : TE} (h : PE X a t) : PE X (.BoolOp op [a] pos) t := fun pins s σ H Q I hw => BoolOp_one (h pins s σ H Q I hw)
theorem pe_and (ha : PE X a ta) (hb : PE X (.BoolOp .And (b :: rest) pos) tb) : PE X (.BoolOp .And (a :: b :: rest) pos) (tAndV ta tb) := by
  intro pins s σ H Q I h
  refine BoolOp_and (thn (ha pins s σ H _ I h) fun v s1 ⟨x, H1, I1, r1, q1⟩ => ?_)
  obtain ⟨c, rfl, q1⟩ := q1
  cases r1
  refine wpAny_truthy_bool ?_
  cases c with
  | true => exact hb pins s1 σ H1 Q I1 q1
  | false => exact ⟨.bl false, H1, I1, rfl, q1⟩
theorem pe_not (ha : PE X a ta) : PE X (.UnaryOp .Not a pos) (tNotV ta) := by
  intro pins s σ H Q I h
  refine UnaryOp_ (thn (ha pins s σ H _ I h) fun v s1 ⟨x, H1, I1, r1, q1⟩ => ?_)
  obtain ⟨c, rfl, q1⟩ := q1
  cases r1
  exact not_of (wpAny_truthy_bool ⟨.bl (!c), H1, I1, rfl, q1⟩)
end
end L2
namespace L2
open PySem PySem.Spec PyProof.Rows
def SqL (K : PySem.W.Frag) (H : Hp) (a : Addr) (xs : List V) : Prop :=
  Rd H a (.lst xs) ∨
    ∃ (o : Obj) (its : Array Value) (n : Nat), K.lookup a = some o ∧ o.cls = .type "list" ∧ o.dict = none ∧ o.data = .seq its n ∧ its.size ≤ sizeLine ∧ Vals xs its.toList
def SqT (K : PySem.W.Frag) (H : Hp) (a : Addr) (xs : List V) : Prop :=
  Rd H a (.tup xs) ∨
    ∃ (o : Obj) (its : Array Value) (n : Nat), K.lookup a = some o ∧ o.cls = .type "tuple" ∧ o.data = .seq its n ∧ its.size ≤ sizeLine ∧ Vals xs its.toList
def absV : Value → Option V
  | .none => some .non
  | .bool b => some (.bl b)
  | .int i _ => some (.int i)
  | .str x _ => some (.str x)
  | .bytes b _ => some (.byt b)
  | .float b _ => some (.flt b)
  | .ref a => some (.ref a)
  | .type n => some (.ty n)
  | _ => none
theorem RelV.abs {x : V} {u : Value} (r : RelV x u) : absV u = some x := by
  cases x with
  | non => cases r; rfl
  | bl _ => cases r; rfl
  | int _ => obtain ⟨t, rfl⟩ := r; rfl
  | str _ => obtain ⟨t, rfl⟩ := r; rfl
  | byt _ => obtain ⟨t, rfl⟩ := r; rfl
  | flt _ => obtain ⟨t, rfl⟩ := r; rfl
  | ref _ => cases r; rfl
  | ty _ => cases r; rfl
theorem RelV.inj {x y : V} {u : Value} (r : RelV x u) (q : RelV y u) : x = y := Option.some.inj (r.abs.symm.trans q.abs)
theorem Vals.inj : ∀ {xs ys : List V} {us : List Value}, Vals xs us → Vals ys us → xs = ys
  | _, _, _, .nil, .nil => rfl
  | _, _, _, .cons r t, .cons r' t' => by rw [r.inj r', Vals.inj t t']
section
variable {X : Cx} {pins : List (Addr × Obj)} {σ : St} {H : Hp} {s : Shared} {a : Addr} {xs ys : List V}
theorem SqL.of {K : PySem.W.Frag} (h : H a = some (.lst xs)) : SqL K H a xs := .inl (.inl h)
theorem SqT.of {K : PySem.W.Frag} (h : H a = some (.tup xs)) : SqT K H a xs := .inl (.inl h)
theorem Inv.list (I : Inv X pins σ H s) (h : SqL X.K H a xs) : ∃ its : List Value, Vals xs its ∧ PlainL s.heap a its.toArray ∧ xs.length ≤ sizeLine := by
  rcases h with h | ⟨o, its, n, hk, hc, hd, hs, hz, r⟩
  · obtain ⟨z, its, n, r, e⟩ := h.ok I.hok
    exact ⟨its, r, ⟨_, n, e, rfl, rfl, rfl⟩, z⟩
  · refine ⟨its.toList, r, ⟨o, n, I.kIn a o hk, hc, hd, by simpa using hs⟩, ?_⟩
    have e := r.length
    simp only [Array.length_toList] at e
    omega
theorem Inv.tuple (I : Inv X pins σ H s) (h : SqT X.K H a xs) : ∃ its : List Value, Vals xs its ∧ IsTup s.heap a its.toArray ∧ xs.length ≤ sizeLine := by
  rcases h with h | ⟨o, its, n, hk, hc, hs, hz, r⟩
  · obtain ⟨z, its, r, p⟩ := h.ok I.hok
    exact ⟨its, r, p, z⟩
  · refine ⟨its.toList, r, ⟨o, I.kIn a o hk, hc, n, by simpa using hs⟩, ?_⟩
    have e := r.length
    simp only [Array.length_toList] at e
    omega
theorem Inv.list_inj (I : Inv X pins σ H s) (h : SqL X.K H a xs) (h' : SqL X.K H a ys) : xs = ys := by
  obtain ⟨its, r, ⟨o, n, e, _, _, d⟩, _⟩ := I.list h
  obtain ⟨its', r', ⟨o', n', e', _, _, d'⟩, _⟩ := I.list h'
  rw [e] at e'; cases e'
  rw [d] at d'
  injection d' with d1 _
  have : its = its' := by simpa using congrArg Array.toList d1
  subst this
  exact r.inj r'
theorem Inv.tuple_inj (I : Inv X pins σ H s) (h : SqT X.K H a xs) (h' : SqT X.K H a ys) : xs = ys := by
  obtain ⟨its, r, ⟨o, e, _, n, d⟩, _⟩ := I.tuple h
  obtain ⟨its', r', ⟨o', e', _, n', d'⟩, _⟩ := I.tuple h'
  rw [e] at e'; cases e'
  rw [d] at d'
  injection d' with d1 _
  have : its = its' := by simpa using congrArg Array.toList d1
  subst this
  exact r.inj r'
end
abbrev Cx.wish (X : Cx) (E : Value → Shared → Prop) : Cx := { X with xe := E }
abbrev Cx.nox (X : Cx) : Cx := X.wish fun _ _ => False
theorem Cx.Ok.wish {X : Cx} (ok : X.Ok) (E : Value → Shared → Prop) : (X.wish E).Ok :=
  ⟨ok.mod, ok.kind, ok.glob, ok.blt, ok.above, ok.inj, ok.has, ok.cab, ok.hd, ok.frames, ok.stk, ok.exf, ok.bs, ok.bsz, ok.noex, ok.exfs, ok.funs, ok.frf⟩
theorem Cx.Ok.unwish {X : Cx} {E : Value → Shared → Prop} (ok : (X.wish E).Ok) : X.Ok :=
  ⟨ok.mod, ok.kind, ok.glob, ok.blt, ok.above, ok.inj, ok.has, ok.cab, ok.hd, ok.frames, ok.stk, ok.exf, ok.bs, ok.bsz, ok.noex, ok.exfs, ok.funs, ok.frf⟩
section
variable {X : Cx} {pins : List (Addr × Obj)} {σ : St} {H : Hp} {s : Shared} {E : Value → Shared → Prop}
theorem Inv.wish (I : Inv X pins σ H s) (E : Value → Shared → Prop) : Inv (X.wish E) pins σ H s := ⟨I.ok.wish E, I.os, I.bare, I.base, I.loc, I.cell, I.free, I.freeC, I.pin, I.hok, I.len⟩
theorem Inv.unwish (I : Inv (X.wish E) pins σ H s) : Inv X pins σ H s := ⟨I.ok.unwish, I.os, I.bare, I.base, I.loc, I.cell, I.free, I.freeC, I.pin, I.hok, I.len⟩
theorem SP.unwish {D : Ends} {f : Flow} {s' : Shared} (h : SP (X.wish E) pins D f s') : SP X pins D f s' := by
  cases f with
  | next => obtain ⟨σ', H', I, q⟩ := h; exact ⟨σ', H', I.unwish, q⟩
  | brk => obtain ⟨σ', H', I, q⟩ := h; exact ⟨σ', H', I.unwish, q⟩
  | cont => obtain ⟨σ', H', I, q⟩ := h; exact ⟨σ', H', I.unwish, q⟩
  | ret u => obtain ⟨v, σ', H', I, r, q⟩ := h; exact ⟨v, σ', H', I.unwish, r, q⟩
theorem PSs.nox {st : List Stmt} {t : TS} (h : PSs X.nox st t) : PSs X st t := fun pins s σ H D I hw =>
  wpAny_mono (h pins s σ H D (I.wish _) hw) (fun _ _ q => q.unwish) fun _ _ z => False.elim z
end
section
variable {X : Cx} {st : Stmt} {rest : List Stmt} {t u : TS} {e : Expr} {te : TE} {pos : Pos}
def tNext : TS := fun D σ H => D.nx σ H
def tSeq (t u : TS) : TS := fun D σ H => t { D with nx := u D } σ H
theorem pss_nil : PSs X [] tNext := fun _ _ σ H _ I h => wpAny_execs_nil ⟨σ, H, I, h⟩
theorem pss_cons (h1 : PS X st t) (h2 : PSs X rest u) : PSs X (st :: rest) (tSeq t u) := by
  intro pins s σ H D I h
  refine wpAny_execs_cons (thn (h1 pins s σ H { D with nx := u D } I h) fun f s1 q => ?_)
  cases f with
  | next =>
    obtain ⟨σ', H', I', q⟩ := q
    exact h2 pins s1 σ' H' D I' q
  | ret v => exact q
  | brk => exact q
  | cont => exact q
theorem pss_one (h1 : PS X st t) : PSs X [st] t := by
  intro pins s σ H D I h
  refine wpAny_execs_cons (thn (h1 pins s σ H D I h) fun f s1 q => ?_)
  cases f with
  | next => exact wpAny_execs_nil q
  | ret v => exact q
  | brk => exact q
  | cont => exact q
theorem Inv.quiet {pins : List (Addr × Obj)} {σ : St} {H : Hp} {s : Shared} (I : Inv X pins σ H s) : interactive X.env = false := by simp [interactive, I.ok.kind]
def tDrop (te : TE) : TS := fun D σ H => te σ H fun _ H1 => D.nx σ H1
theorem ps_expr (he : PE X e te) (hs : swapsWith e none pos.line X.env = pure false := by rfl) : PS X (.Expr e pos) (tDrop te) := by
  intro pins s σ H D I h
  exact wpAny_Expr_any (thn (he pins s σ H _ I h) fun v s1 ⟨x, H1, I1, r1, q1⟩ => ⟨σ, H1, I1, q1⟩) I.quiet hs
def tRet (te : TE) : TS := fun D σ H => te σ H D.rt
theorem ps_ret (he : PE X e te) : PS X (.Return (some e) pos) (tRet te) := by
  intro pins s σ H D I h
  exact wpAny_Return_some (thn (he pins s σ H _ I h) fun v s1 ⟨x, H1, I1, r1, q1⟩ => ⟨x, σ, H1, I1, r1, q1⟩)
def tIfS (c : TT) (t u : TS) : TS := fun D σ H => c σ H fun b H1 => if b = true then t D σ H1 else u D σ H1
theorem ps_if {c : Expr} {a b : List Stmt} {tc : TT} (hc : PT X c tc) (ha : PSs X a t) (hb : PSs X b u) : PS X (.If c a b pos) (tIfS tc t u) := by
  intro pins s σ H D I h
  refine wpAny_If (thn (hc pins s σ H _ I h) fun d s1 ⟨H1, I1, q1⟩ => ?_)
  cases d with
  | true => exact ha pins s1 σ H1 D I1 q1
  | false => exact hb pins s1 σ H1 D I1 q1
end
abbrev TG := V → St → Hp → (St → Hp → Prop) → Prop
abbrev TGs := List V → St → Hp → (St → Hp → Prop) → Prop
def PG (X : Cx) (target : Expr) (t : TG) : Prop :=
  ∀ (pins : List (Addr × Obj)) (s : Shared) (σ : St) (H : Hp) (v : V) (u : Value) (Q : St → Hp → Prop), Inv X pins σ H s → RelV v u → t v σ H Q →
    wpAny (model X.prog X.w) X.A (assign target X.env u) (fun _ s' => ∃ σ' H', Inv X pins σ' H' s' ∧ Q σ' H') X.xe s
def PGs (X : Cx) (ts : List Expr) (t : TGs) : Prop :=
  ∀ (pins : List (Addr × Obj)) (s : Shared) (σ : St) (H : Hp) (vs : List V) (us : List Value) (Q : St → Hp → Prop), Inv X pins σ H s → Vals vs us → t vs σ H Q →
    wpAny (model X.prog X.w) X.A (assignInOrder ((assignEach ts X.env).map (·.2)) us) (fun _ s' => ∃ σ' H', Inv X pins σ' H' s' ∧ Q σ' H') X.xe s
abbrev TSet := V → V → V → Hp → (Hp → Prop) → Prop
def PSet (X : Cx) (t : TSet) : Prop :=
  ∀ (pins : List (Addr × Obj)) (s : Shared) (σ : St) (H : Hp) (o i v : V) (ov iv u : Value) (Q : Hp → Prop), Inv X pins σ H s → RelV o ov → RelV i iv → RelV v u → t o i v H Q →
    wpAny (model X.prog X.w) X.A (setItem ov iv u) (fun _ s' => ∃ H', Inv X pins σ H' s' ∧ Q H') X.xe s
abbrev TIp := V → V → Hp → VK → Prop
def PIp (X : Cx) (op : Operator) (t : TIp) : Prop :=
  ∀ (pins : List (Addr × Obj)) (s : Shared) (σ : St) (H : Hp) (x y : V) (v u : Value) (Q : VK), Inv X pins σ H s → RelV x v → RelV y u → t x y H Q →
    wpAny (model X.prog X.w) X.A (inplaceOp op v u) (EP X pins σ Q) X.xe s
section
variable {X : Cx} {pos : Pos}
def gName (i : Nat) : TG := fun v σ H Q => Q (σ.set i (some v)) H
theorem pg_name {i : Nat} {x : Str} (hN : X.N.Nodup) (hi : X.N[i]? = some x) (hx : Loc X.env.scope x) (hf : X.fn x = true ∨ X.env.scope.names.lookup x = some .local := by first | exact .inl rfl | exact .inr rfl | assumption) : PG X (.Name x pos) (gName i) := by
  intro pins s σ H v u Q I r h
  exact wpAny_assign_Name (store_ok I hN hi hx r (fun s' I' => ⟨_, H, I', h⟩) hf)
def gNil : TGs := fun vs σ H Q => vs = [] ∧ Q σ H
def gCons (t : TG) (u : TGs) : TGs := fun vs σ H Q => ∃ v r, vs = v :: r ∧ t v σ H fun σ' H' => u r σ' H' Q
theorem pgs_nil : PGs X [] gNil := by
  intro pins s σ H vs us Q I r h
  obtain ⟨e, h⟩ := h
  subst e
  cases r
  exact assignInOrder_nil ⟨σ, H, I, h⟩
theorem pgs_cons {e : Expr} {es : List Expr} {t : TG} {u : TGs} (h1 : PG X e t) (h2 : PGs X es u)
    (hs : (assignEach (e :: es) X.env).map (·.2) = assign e X.env :: (assignEach es X.env).map (·.2) := by rfl) : PGs X (e :: es) (gCons t u) := by
  intro pins s σ H vs us Q I r h
  obtain ⟨v, vr, e1, h⟩ := h
  subst e1
  cases r with
  | cons r rr =>
    rw [hs]
    refine assignInOrder_cons (thn (h1 pins s σ H _ _ _ I r h) fun _ s1 ⟨σ1, H1, I1, q1⟩ => ?_)
    exact h2 pins s1 σ1 H1 _ _ Q I1 rr q1
def gTup (K : PySem.W.Frag) (n : Nat) (t : TGs) : TG := fun v σ H Q => ∃ a xs, v = .ref a ∧ SqT K H a xs ∧ xs.length = n ∧ t xs σ H Q
theorem pg_tup {es : List Expr} {k : Nat} {t : TGs} {n : Nat} (hc : X.calm = true) (h : PGs X es t)
    (hn : (assignEach es X.env).length = n := by rfl) (hst : (assignEach es X.env).findIdx? (·.1) = none := by rfl) : PG X (.Tuple es k pos) (gTup X.K n t) := by
  intro pins s σ H v u Q I r hw
  obtain ⟨a, xs, e1, hq, hl, hw⟩ := hw
  subst e1
  cases r
  obtain ⟨its, rv, ht, hz⟩ := I.tuple hq
  refine assign_Tuple_tuple (I.ok.hd hc) ht (by simp [hn, ← hl, rv.length]) hst fun h' hx => ?_
  have I1 : Inv X pins σ H { s with heap := h' } := I.kept (t' := s.toks) fun b o e => hx b o (Nat.ne_of_lt (Heap.lt_size e)) e
  exact h pins _ σ H xs _ Q I1 (by simpa using rv) hw
def gSub (to ti : TE) (t : TSet) : TG := fun v σ H Q => to σ H fun o H1 => ti σ H1 fun i H2 => t o i v H2 fun H3 => Q σ H3
theorem pg_sub {o i : Expr} {to ti : TE} {t : TSet} (ho : PE X o to) (hi : PE X i ti) (hs : PSet X t)
    (ha : ∀ v, assign (.Subscript o i pos) X.env v = (do
      let ov ← holding [v] (eval o X.env)
      let iv ← holding [v, ov] (eval i X.env)
      standAt pos
      holding [v, ov, iv] (setItem ov iv v)
      release [v, ov, iv] []) := by intro _; rfl) : PG X (.Subscript o i pos) (gSub to ti t) := by
  intro pins s σ H v u Q I r h
  rw [ha]
  refine wpAny_bind (wpAny_holding (thn (ho pins s σ H _ I h) fun ov s1 ⟨x, H1, I1, r1, q1⟩ => ?_))
  refine wpAny_bind (wpAny_holding (thn (hi pins s1 σ H1 _ I1 q1) fun iv s2 ⟨y, H2, I2, r2, q2⟩ => ?_))
  refine wpAny_bind (wpAny_standAt (wpAny_bind (wpAny_holding (thn (hs pins s2 σ H2 x y v ov iv u _ I2 r1 r2 r q2) fun _ s3 ⟨H3, I3, q3⟩ => ?_))))
  exact wpAny_release ⟨σ, H3, I3, q3⟩
def tAsg (te : TE) (g : TG) : TS := fun D σ H => te σ H fun x H1 => g x σ H1 D.nx
theorem ps_asg {tg e : Expr} {te : TE} {g : TG} (he : PE X e te) (hg : PG X tg g) (hs : swapsWithSole [tg] e pos.line X.env = pure false := by rfl) (hw : swappedStores [tg] e X.env = pure none := by rfl)
    (h1 : (assignEach [tg] X.env).map (·.2) = [assign tg X.env] := by rfl) : PS X (.Assign [tg] e pos) (tAsg te g) := by
  intro pins s σ H D I h
  refine wpAny_Assign_stores (thn (he pins s σ H _ I h) fun v s1 ⟨x, H1, I1, r1, q1⟩ => ?_) hs hw
  rw [h1]
  exact thn (hg pins s1 σ H1 x v _ I1 r1 q1) fun _ s2 q => q
theorem ps_set {i : Nat} {x : Str} {e : Expr} {te : TE} {pos' : Pos} (hN : X.N.Nodup) (hi : X.N[i]? = some x) (hx : Loc X.env.scope x) (he : PE X e te) (hs : swapsWith e (some (.Name x pos')) pos.line X.env = pure false := by rfl) (hf : X.fn x = true ∨ X.env.scope.names.lookup x = some .local := by first | exact .inl rfl | exact .inr rfl | assumption) :
    PS X (.Assign [.Name x pos'] e pos) (tAsg te (gName i)) := by
  intro pins s σ H D I h
  refine wpAny_Assign_Name (thn (he pins s σ H _ I h) fun v s1 ⟨y, H1, I1, r1, q1⟩ => ?_) hs
  exact store_ok I1 hN hi hx r1 (fun s2 I2 => ⟨_, H1, I2, q1⟩) hf
def tAugS (to ti te : TE) (tget : V → V → Hp → VK → Prop) (tip : TIp) (tset : TSet) : TS := fun D σ H => to σ H fun o H1 => ti σ H1 fun i H2 => tget o i H2 fun x H3 => te σ H3 fun y H4 => tip x y H4 fun z H5 => tset o i z H5 fun H6 => D.nx σ H6
def PGet (X : Cx) (t : V → V → Hp → VK → Prop) : Prop :=
  ∀ (pins : List (Addr × Obj)) (s : Shared) (σ : St) (H : Hp) (o i : V) (ov iv : Value) (Q : VK), Inv X pins σ H s → RelV o ov → RelV i iv → t o i H Q →
    wpAny (model X.prog X.w) X.A (getItem ov iv) (EP X pins σ Q) X.xe s
theorem ps_augS {o i e : Expr} {to ti te : TE} {tget : V → V → Hp → VK → Prop} {tip : TIp} {tset : TSet} {op : Operator} {tpos : Pos} (ho : PE X o to) (hi : PE X i ti) (hg : PGet X tget) (he : PE X e te) (hp : PIp X op tip) (hs : PSet X tset)
    (ha : ∀ ov iv new, augStore i ov iv new = (do holding [new, ov, iv] (setItem ov iv new); release [new, ov, iv] []; pure .next) := by intros; rfl) : PS X (.AugAssign (.Subscript o i tpos) op e pos) (tAugS to ti te tget tip tset) := by
  intro pins s σ H D I h
  refine wpAny_AugAssign_SubscriptAny (thn (ho pins s σ H _ I h) fun ov s1 ⟨x1, H1, I1, r1, q1⟩ => ?_) ha
  refine thn (hi pins s1 σ H1 _ I1 q1) fun iv s2 ⟨x2, H2, I2, r2, q2⟩ => ?_
  refine thn (hg pins s2 σ H2 x1 x2 ov iv _ I2 r1 r2 q2) fun old s3 ⟨x3, H3, I3, r3, q3⟩ => ?_
  refine thn (he pins s3 σ H3 _ I3 q3) fun v s4 ⟨x4, H4, I4, r4, q4⟩ => ?_
  refine thn (hp pins s4 σ H4 x3 x4 old v _ I4 r3 r4 q4) fun new s5 ⟨x5, H5, I5, r5, q5⟩ => ?_
  exact thn (hs pins s5 σ H5 x1 x2 x5 ov iv new _ I5 r1 r2 r5 q5) fun _ s6 ⟨H6, I6, q6⟩ => ⟨σ, H6, I6, q6⟩
end
section
variable {X : Cx} {pos : Pos}
def tWhile (c : TT) (tb : TS) : TS := fun D σ H => ∃ W : Nat → St → Hp → Prop, (∃ m, W m σ H) ∧ ∀ m σ H, W m σ H →
  c σ H fun b H1 => if b = true then ∃ N : St → Hp → Prop, (∀ σ' H', N σ' H' → ∃ m', m' < m ∧ W m' σ' H') ∧ tb { D with nx := N, ct := N, bk := D.nx } σ H1 else D.nx σ H1
theorem ps_while {c : Expr} {body : List Stmt} {tc : TT} {tb : TS} (hp : PassesOwn (model X.prog X.w) X.A X.env X.xe) (hc : PT X c tc) (hb : PSs X body tb) : PS X (.While c body [] pos) (tWhile tc tb) := by
  intro pins s σ H D I h
  obtain ⟨W, ⟨m0, w0⟩, turn⟩ := h
  refine wpAny_While (codeAny_whileLoop (fun n s' => ∃ σ' H', Inv X pins σ' H' s' ∧ W n σ' H') ?_ m0 ⟨σ, H, I, w0⟩)
  rintro n s1 ⟨σ1, H1, I1, w1⟩
  refine wpAny_passesOwn hp (thn (hc pins s1 σ1 H1 _ I1 (turn n σ1 H1 w1)) fun b s2 ⟨H2, I2, q2⟩ => ?_)
  cases b with
  | true =>
    obtain ⟨N, hN, q2⟩ := q2
    rw [if_pos rfl]
    refine wpAny_passesOwn hp (thn (hb pins s2 σ1 H2 _ I2 q2) fun f s3 q3 => ?_)
    cases f with
    | next =>
      obtain ⟨σ3, H3, I3, n3⟩ := q3
      obtain ⟨m', hm, w3⟩ := hN σ3 H3 n3
      exact ⟨m', hm, σ3, H3, I3, w3⟩
    | cont =>
      obtain ⟨σ3, H3, I3, n3⟩ := q3
      obtain ⟨m', hm, w3⟩ := hN σ3 H3 n3
      exact ⟨m', hm, σ3, H3, I3, w3⟩
    | brk => exact q3
    | ret v => exact q3
  | false =>
    rw [if_neg Bool.false_ne_true]
    exact wpAny_execs_nil ⟨σ1, H2, I2, q2⟩
end
structure It where
  go : Nat → Hp → Prop
  yld : Nat → Hp → V → Hp → Prop
  stop : Nat → Hp → Prop
def FpOk (X : Cx) (pins : List (Addr × Obj)) (H : Hp) (b : Addr) : Prop :=
  H b = none ∧ b ≠ X.env.locals ∧ b ∉ X.fs ∧ (b ∈ X.ex ∨ X.s₀.heap.objs.size ≤ b) ∧ (∀ x c, X.env.cells.lookup x = some c → c ≠ b) ∧ ∀ p ∈ X.pn ++ pins, p.1 ≠ b
theorem Inv.fpOk {X : Cx} {pins : List (Addr × Obj)} {σ : St} {H H' : Hp} {s : Shared} {b : Addr} (I : Inv X pins σ H s) (hb : s.heap.objs.size ≤ b) (hn : H' b = none) : FpOk X pins H' b := by
  refine ⟨hn, Nat.ne_of_gt (Nat.lt_of_lt_of_le I.lt hb), I.nofs hb, .inr (Nat.le_trans I.sz hb), fun x c e z => ?_, fun p hp z => ?_⟩
  · obtain ⟨v, q⟩ := I.cell x c e
    exact absurd (Nat.lt_of_lt_of_le q.lt (by rw [z]; exact hb)) (Nat.lt_irrefl _)
  · exact absurd (Nat.lt_of_lt_of_le (Heap.lt_size (I.pin p hp).1) (by rw [z]; exact hb)) (Nat.lt_irrefl _)
structure Turn (P : Program) (w : World) (K : PySem.W.Frag) (tg : Expr) (J : It) (fp : List Addr) (it : Addr) (tn : Nat → Heap → Prop) : Prop where
  mem : it ∈ fp
  obj : ∀ i h, tn i h → ∀ b ∈ fp, ∃ o, h.get? b = some o ∧ ∀ v, o.data ≠ .cell v
  keep : ∀ i h h', tn i h → (∀ b ∈ fp, ∀ o, h.get? b = some o → h'.get? b = some o) → tn i h'
  item : ∀ (X : Cx), X.prog = P → X.w = w → X.K = K → X.calm = true → ∀ (i : Nat) (pins : List (Addr × Obj)) (s : Shared) (σ : St) (H : Hp) (E : Value → Shared → Prop), Inv X pins σ H s → (∀ b ∈ fp, FpOk X pins H b) → tn i s.heap → J.go i H →
    wpAny (model P w) X.A (pyNext (.ref it)) (fun r s1 => ∃ u, r = some u ∧
      wpAny (model P w) X.A (letOwnedTupleGo tg (.ref it) u) (fun _ s2 => ∃ x H', Inv X pins σ H' s2 ∧ RelV x u ∧ J.yld i H x H' ∧ tn (i + 1) s2.heap ∧ ∀ b ∈ fp, H' b = none) E s1) E s
  done : ∀ (X : Cx), X.prog = P → X.w = w → X.K = K → X.calm = true → ∀ (i : Nat) (pins : List (Addr × Obj)) (s : Shared) (σ : St) (H : Hp) (E : Value → Shared → Prop), Inv X pins σ H s → (∀ b ∈ fp, FpOk X pins H b) → tn i s.heap → J.stop i H →
    wpAny (model P w) X.A (pyNext (.ref it)) (fun r s1 => r = none ∧ Inv X pins σ H s1) E s
  self : ∀ (A : Around) (i : Nat) (s : Shared) (Q : Value → Shared → Prop) (E : Value → Shared → Prop), tn i s.heap → Q (.ref it) s → wpAny (model P w) A (pyIter (.ref it)) Q E s
abbrev TI := St → Hp → (It → Hp → Prop) → Prop
def PIE (X : Cx) (pins : List (Addr × Obj)) (σ : St) (tg : Expr) (R : It → Hp → Prop) (itv : Value) (s2 : Shared) : Prop :=
  ∃ (it : Addr) (fp : List Addr) (tn : Nat → Heap → Prop) (J : It) (H' : Hp), itv = .ref it ∧ Inv X pins σ H' s2 ∧ Turn X.prog X.w X.K tg J fp it tn ∧ tn 0 s2.heap ∧ (∀ b ∈ fp, FpOk X pins H' b) ∧ R J H'
def PI (X : Cx) (tg iter : Expr) (wi : TI) : Prop :=
  ∀ (pins : List (Addr × Obj)) (s : Shared) (σ : St) (H : Hp) (R : It → Hp → Prop), Inv X pins σ H s → wi σ H R →
    wpAny (model X.prog X.w) X.A (eval iter X.env) (fun v s1 => wpAny (model X.prog X.w) X.A (pyIter v) (PIE X pins σ tg R) X.xe s1) X.xe s
theorem go_of {M : Model} {A : Around} {E : Value → Shared → Prop} {s : Shared} {tg : Expr} {it : Addr} {u : Value} {o : Obj} {n : String} {vs : Array Value} {Q : Unit → Shared → Prop} (ho : s.heap.get? it = some o) (hc : o.cls = .type n) (hd : o.data = .fields vs)
    (hn : ["enumerate", "zip", "dict_itemiterator", "dict_reverseitemiterator", "odict_iterator", "itertools.zip_longest", "itertools.pairwise"].contains n = false) (hQ : Q () s) : wpAny M A (letOwnedTupleGo tg (.ref it) u) Q E s := by
  unfold letOwnedTupleGo
  cases tg <;> first
    | exact wpAny_pure hQ
    | (cases u <;> first
        | exact wpAny_pure hQ
        | (refine wpAny_bind (wpAny_load ho ?_)
           rw [hc, hd]
           show wpAny M A (if (["enumerate", "zip", "dict_itemiterator", "dict_reverseitemiterator", "odict_iterator", "itertools.zip_longest", "itertools.pairwise"].contains n && vs[0]? == some (rawInt _)) = true then _ else _) Q E s
           rw [if_neg (by intro h; rw [hn, Bool.false_and] at h; cases h)]
           exact wpAny_pure hQ))
def Itl (K : PySem.W.Frag) (a : Addr) : It :=
  ⟨fun i H => ∃ xs x, SqL K H a xs ∧ xs[i]? = some x, fun i H x H' => H' = H ∧ ∀ xs, SqL K H a xs → xs[i]? = some x, fun i H => ∃ xs, SqL K H a xs ∧ xs.length ≤ i⟩
def Itt (K : PySem.W.Frag) (a : Addr) : It :=
  ⟨fun i H => ∃ xs x, SqT K H a xs ∧ xs[i]? = some x, fun i H x H' => H' = H ∧ ∀ xs, SqT K H a xs → xs[i]? = some x, fun i H => ∃ xs, SqT K H a xs ∧ xs.length ≤ i⟩
def Itr (lo : Int) (n : Nat) : It := ⟨fun i _ => i < n, fun i H x H' => H' = H ∧ x = .int (lo + i), fun i _ => n ≤ i⟩
theorem turn_list {P : Program} {w : World} {K : PySem.W.Frag} {tg : Expr} (a it : Addr) : Turn P w K tg (Itl K a) [it] it (fun i h => h.IsListIter it a i) where
  mem := by simp
  obj := fun i h st b hb => by
    have e : b = it := by simpa using hb
    subst e
    obtain ⟨o, e, c, d⟩ := st
    exact ⟨o, e, fun v z => by rw [d] at z; cases z⟩
  keep := fun i h h' st k => st.at fun o e => k it (by simp) o e
  item := by
    intro X hP hw hK hc i pins s σ H E I hf st hg
    subst hP hw hK
    obtain ⟨xs, x, hq, hx⟩ := hg
    obtain ⟨its, rv, p, hz⟩ := I.list hq
    obtain ⟨u, hu, ru⟩ := rv.get hx
    obtain ⟨f0, f1, f2, f3, f4, f5⟩ := hf it (by simp)
    refine wpAny_pyNext_list_item st p.isList (x := u) (by simpa using hu) fun h' st' sb => ?_
    have I1 : Inv X pins σ H { s with heap := h' } := I.turned (t' := s.toks) (fun b o hb e => (sb.2 b hb).trans e) f0 f1 f3 f4 f5
    obtain ⟨o, e, c, d⟩ := id st'
    exact ⟨u, rfl, go_of (s := { s with heap := h' }) e c d (by decide) ⟨x, H, I1, ru, ⟨rfl, fun ys hy => by rw [I.list_inj hy hq]; exact hx⟩, st', fun b hb => (hf b hb).1⟩⟩
  done := by
    intro X hP hw hK hc i pins s σ H E I hf st hg
    subst hP hw hK
    obtain ⟨xs, hq, hx⟩ := hg
    obtain ⟨its, rv, p, hz⟩ := I.list hq
    obtain ⟨f0, f1, f2, f3, f4, f5⟩ := hf it (by simp)
    have hl := rv.length
    exact wpAny_pyNext_list_end (I.ok.hd hc) st p.isList (by simp; omega) fun h' eb => ⟨rfl, I.turned (t' := s.toks) (fun b o hb e => eb b o hb e) f0 f1 f3 f4 f5⟩
  self := fun _ _ _ _ _ st h => wpAny_pyIter_listiter st h
theorem turn_tuple {P : Program} {w : World} {K : PySem.W.Frag} {tg : Expr} (a it : Addr) : Turn P w K tg (Itt K a) [it] it (fun i h => h.IsTupleIter it a i) where
  mem := by simp
  obj := fun i h st b hb => by
    have e : b = it := by simpa using hb
    subst e
    obtain ⟨o, e, c, d⟩ := st
    exact ⟨o, e, fun v z => by rw [d] at z; cases z⟩
  keep := fun i h h' st k => st.at fun o e => k it (by simp) o e
  item := by
    intro X hP hw hK hc i pins s σ H E I hf st hg
    subst hP hw hK
    obtain ⟨xs, x, hq, hx⟩ := hg
    obtain ⟨its, rv, p, hz⟩ := I.tuple hq
    obtain ⟨u, hu, ru⟩ := rv.get hx
    obtain ⟨f0, f1, f2, f3, f4, f5⟩ := hf it (by simp)
    refine wpAny_pyNext_tuple_item st (show s.heap.IsTuple a its.toArray from p) (x := u) (by simpa using hu) fun h' st' sb => ?_
    have I1 : Inv X pins σ H { s with heap := h' } := I.turned (t' := s.toks) (fun b o hb e => (sb.2 b hb).trans e) f0 f1 f3 f4 f5
    obtain ⟨o, e, c, d⟩ := id st'
    exact ⟨u, rfl, go_of (s := { s with heap := h' }) e c d (by decide) ⟨x, H, I1, ru, ⟨rfl, fun ys hy => by rw [I.tuple_inj hy hq]; exact hx⟩, st', fun b hb => (hf b hb).1⟩⟩
  done := by
    intro X hP hw hK hc i pins s σ H E I hf st hg
    subst hP hw hK
    obtain ⟨xs, hq, hx⟩ := hg
    obtain ⟨its, rv, p, hz⟩ := I.tuple hq
    obtain ⟨f0, f1, f2, f3, f4, f5⟩ := hf it (by simp)
    have hl := rv.length
    exact wpAny_pyNext_tuple_end (I.ok.hd hc) st (show s.heap.IsTuple a its.toArray from p) (by simp; omega) fun h' eb => ⟨rfl, I.turned (t' := s.toks) (fun b o hb e => eb b o hb e) f0 f1 f3 f4 f5⟩
  self := fun _ _ _ _ _ st h => wpAny_pyIter_tupleiter st h
theorem turn_range {P : Program} {w : World} {K : PySem.W.Frag} {tg : Expr} (it : Addr) (lo : Int) (n : Nat) : Turn P w K tg (Itr lo n) [it] it (fun i h => IsRangeIter h it (lo + (i : Nat) * 1) ((n : Int) - (i : Nat)) 1) where
  mem := by simp
  obj := fun i h st b hb => by
    have e : b = it := by simpa using hb
    subst e
    exact ⟨_, st, fun v z => by
      have z' : Data.fields _ = Data.cell v := z
      cases z'⟩
  keep := fun i h h' st k => k it (by simp) _ st
  item := by
    intro X hP hw hK hc i pins s σ H E I hf st hg
    subst hP hw hK
    obtain ⟨f0, f1, f2, f3, f4, f5⟩ := hf it (by simp)
    have W := Walks.range (prog := X.prog) (w := X.w) (I.ok.hd hc) it lo 1 n
    refine W.item i s _ _ hg st fun v h' tk hv st' kk => ?_
    obtain ⟨t, rfl⟩ := hv
    have I1 : Inv X pins σ H { s with heap := h', toks := tk } := I.turned (fun b o hb e => kk b o (by simpa using hb) e) f0 f1 f3 f4 f5
    refine ⟨_, rfl, go_of (s := { s with heap := h', toks := tk }) (n := "range_iterator") st' rfl rfl (by decide) ⟨.int (lo + i), H, I1, ⟨t, ?_⟩, ⟨rfl, rfl⟩, st', fun b hb => (hf b hb).1⟩⟩
    rw [Int.mul_one]
  done := by
    intro X hP hw hK hc i pins s σ H E I hf st hg
    subst hP hw hK
    obtain ⟨f0, f1, f2, f3, f4, f5⟩ := hf it (by simp)
    exact wpAny_pyNext_range_end (I.ok.hd hc) st (by have : n ≤ i := hg; omega) fun h' eb => ⟨rfl, I.turned (t' := s.toks) (fun b o hb e => eb b o hb e) f0 f1 f3 f4 f5⟩
  self := fun _ _ _ _ _ st h => wpAny_pyIter_rangeiter st h
end L2
namespace L2
open PySem PySem.Spec PyProof.Rows
section
variable {X : Cx} {tg : Expr}
def iList (K : PySem.W.Frag) (tl : TE) : TI := fun σ H R => tl σ H fun x H1 => ∃ a, x = .ref a ∧ (∃ xs, SqL K H1 a xs) ∧ R (Itl K a) H1
def iTup (K : PySem.W.Frag) (tl : TE) : TI := fun σ H R => tl σ H fun x H1 => ∃ a, x = .ref a ∧ (∃ xs, SqT K H1 a xs) ∧ R (Itt K a) H1
theorem pi_list {l : Expr} {tl : TE} (hl : PE X l tl) : PI X tg l (iList X.K tl) := by
  intro pins s σ H R I h
  refine thn (hl pins s σ H _ I h) fun v s1 ⟨x, H1, I1, r1, q1⟩ => ?_
  obtain ⟨a, e, ⟨xs, hq⟩, q⟩ := q1
  subst e
  cases r1
  obtain ⟨its, rv, p, hz⟩ := I1.list hq
  refine wpAny_pyIter_list p.isList ?_
  refine ⟨s1.heap.objs.size, [s1.heap.objs.size], _, _, H1, rfl, I1.kept (t' := s1.toks) fun b o e => Heap.get?_push_of_some _ e, turn_list a _, ⟨_, Heap.get?_push_size _ rfl, rfl, rfl⟩, fun b hb => ?_, q⟩
  have e : b = s1.heap.objs.size := by simpa using hb
  subst e
  exact I1.fpOk (Nat.le_refl _) (I1.hok.fresh (Nat.le_refl _))
theorem pi_tup {l : Expr} {tl : TE} (hl : PE X l tl) : PI X tg l (iTup X.K tl) := by
  intro pins s σ H R I h
  refine thn (hl pins s σ H _ I h) fun v s1 ⟨x, H1, I1, r1, q1⟩ => ?_
  obtain ⟨a, e, ⟨xs, hq⟩, q⟩ := q1
  subst e
  cases r1
  obtain ⟨its, rv, p, hz⟩ := I1.tuple hq
  refine wpAny_pyIter_tuple (show s1.heap.IsTuple a its.toArray from p) ?_
  refine ⟨s1.heap.objs.size, [s1.heap.objs.size], _, _, H1, rfl, I1.kept (t' := s1.toks) fun b o e => Heap.get?_push_of_some _ e, turn_tuple a _, ⟨_, Heap.get?_push_size _ rfl, rfl, rfl⟩, fun b hb => ?_, q⟩
  have e : b = s1.heap.objs.size := by simpa using hb
  subst e
  exact I1.fpOk (Nat.le_refl _) (I1.hok.fresh (Nat.le_refl _))
theorem range_it {pins : List (Addr × Obj)} {σ : St} {H : Hp} {s : Shared} {R : It → Hp → Prop} {E : Value → Shared → Prop} {lo hi : Int} {t u v : Tok} {tk : Nat} (I : Inv X pins σ H s) (h1 : -(2 ^ 62) ≤ lo) (h2 : lo < 2 ^ 62) (h3 : -(2 ^ 62) ≤ hi) (h4 : hi < 2 ^ 62)
    (q : R (Itr lo (hi - lo).toNat) H) : wpAny (model X.prog X.w) X.A (pyIter (.ref s.heap.objs.size)) (PIE X pins σ tg R) E { s with heap := s.heap.push { cls := .type "range", data := .fields #[.int lo t, .int hi u, .int 1 v] }, toks := tk } := by
  refine wpAny_pyIter_range (IsRange.new ..) (small_one h1 h2 h3 h4) ?_
  have I1 : Inv X pins σ H { s with heap := s.heap.push { cls := .type "range", data := .fields #[.int lo t, .int hi u, .int 1 v] }, toks := tk } := I.kept fun b o e => Heap.get?_push_of_some _ e
  refine ⟨(s.heap.push { cls := .type "range", data := .fields #[.int lo t, .int hi u, .int 1 v] }).objs.size, [(s.heap.push { cls := .type "range", data := .fields #[.int lo t, .int hi u, .int 1 v] }).objs.size], _, _, H, rfl,
    I1.kept (t' := tk) fun b o e => Heap.get?_push_of_some _ e, turn_range _ lo (hi - lo).toNat, ?_, fun b hb => ?_, q⟩
  · have e1 : lo + ((0 : Nat) : Int) * 1 = lo := by simp
    have e2 : (((hi - lo).toNat : Nat) : Int) - ((0 : Nat) : Int) = Builtin.Range.rangeSize lo hi 1 := by rw [rangeSize_one]; split <;> omega
    show IsRangeIter _ _ (lo + ((0 : Nat) : Int) * 1) ((((hi - lo).toNat : Nat) : Int) - ((0 : Nat) : Int)) 1
    rw [e1, e2]
    exact Heap.get?_push_size _ rfl
  · have e : b = (s.heap.push { cls := .type "range", data := .fields #[.int lo t, .int hi u, .int 1 v] }).objs.size := by simpa using hb
    subst e
    exact I1.fpOk (Nat.le_refl _) (I1.hok.fresh (Nat.le_refl _))
def iRng1 (ta : TA) : TI := fun σ H R => ta σ H fun vs H1 => ∃ j : Int, vs = [.int j] ∧ -(2 ^ 62) ≤ j ∧ j < 2 ^ 62 ∧ R (Itr 0 j.toNat) H1
def iRng2 (ta : TA) : TI := fun σ H R => ta σ H fun vs H1 => ∃ i j : Int, vs = [.int i, .int j] ∧ (-(2 ^ 62) ≤ i ∧ i < 2 ^ 62 ∧ -(2 ^ 62) ≤ j ∧ j < 2 ^ 62) ∧ R (Itr i (j - i).toNat) H1
theorem pi_range1 {a : Expr} {ta : TA} {p pos : Pos} (hg : Gl X "range") (hm : X.mg "range" = none) (ha : PA X [a] ta) (hs : starEach [a] X.env = [(false, eval a X.env)] := by rfl) : PI X tg (.Call (.Name "range" p) [a] [] pos) (iRng1 ta) := by
  intro pins s σ H R I h
  refine Call_ (ld_blt I hg hm boot_range (PyProof.Rows.callWith_type1 (thn (ha pos pins s σ H _ I h) fun us s1 ⟨vs, H1, I1, r1, q1⟩ => ?_) hs rfl))
  obtain ⟨j, e, q1, q2, q⟩ := q1
  subst e
  cases r1 with
  | cons r rr =>
    cases rr
    obtain ⟨t, rfl⟩ := r
    exact call_range_1 (range_it I1 (by omega) (by omega) q1 q2 (by simpa using q))
theorem pi_range2 {a b : Expr} {ta : TA} {p pos : Pos} (hg : Gl X "range") (hm : X.mg "range" = none) (ha : PA X [a, b] ta) (hs : starEach [a, b] X.env = [(false, eval a X.env), (false, eval b X.env)] := by rfl) (hs2 : starEach [b] X.env = [(false, eval b X.env)] := by rfl) :
    PI X tg (.Call (.Name "range" p) [a, b] [] pos) (iRng2 ta) := by
  intro pins s σ H R I h
  refine Call_ (ld_blt I hg hm boot_range (PyProof.Rows.callWith_type1 (thn (ha pos pins s σ H _ I h) fun us s1 ⟨vs, H1, I1, r1, q1⟩ => ?_) (by rw [hs, hs2]) (by rw [hs2]; rfl)))
  obtain ⟨i, j, e, ⟨q1, q2, q3, q4⟩, q⟩ := q1
  subst e
  cases r1 with
  | cons r rr =>
    cases rr with
    | cons r' rr =>
      cases rr
      obtain ⟨t, rfl⟩ := r
      obtain ⟨t', rfl⟩ := r'
      exact call_range_2 (range_it I1 q1 q2 q3 q4 q)
def tFor (wi : TI) (g : TG) (tb : TS) : TS := fun D σ H => wi σ H fun J H1 => ∃ W : Nat → Nat → St → Hp → Prop, (∃ m, W 0 m σ H1) ∧ ∀ i m σ H, W i m σ H →
  (J.stop i H ∧ D.nx σ H) ∨ (J.go i H ∧ ∃ N : St → Hp → Prop, (∀ σ' H', N σ' H' → ∃ m', m' < m ∧ W (i + 1) m' σ' H') ∧ ∀ x H', J.yld i H x H' → g x σ H' fun σ2 H2 => tb { D with nx := N, ct := N, bk := D.nx } σ2 H2)
def pinsAt (fp : List Addr) (h : Heap) : List (Addr × Obj) := fp.filterMap fun b => (h.get? b).map fun o => (b, o)
theorem mem_pinsAt {fp : List Addr} {h : Heap} {b : Addr} {o : Obj} (hb : b ∈ fp) (e : h.get? b = some o) : (b, o) ∈ pinsAt fp h := List.mem_filterMap.mpr ⟨b, hb, by rw [e]; rfl⟩
theorem of_pinsAt {fp : List Addr} {h : Heap} {p : Addr × Obj} (hp : p ∈ pinsAt fp h) : p.1 ∈ fp ∧ h.get? p.1 = some p.2 := by
  obtain ⟨b, hb, e⟩ := List.mem_filterMap.mp hp
  cases q : h.get? b with
  | none => rw [q] at e; cases e
  | some o =>
    rw [q] at e
    have e' : (b, o) = p := Option.some.inj e
    subst e'
    exact ⟨hb, q⟩
theorem Inv.pinned {pins : List (Addr × Obj)} {σ : St} {H : Hp} {s : Shared} {fp : List Addr} (I : Inv X pins σ H s) (hf : ∀ b ∈ fp, FpOk X pins H b) (ho : ∀ b ∈ fp, ∃ o, s.heap.get? b = some o ∧ ∀ v, o.data ≠ .cell v) : Inv X (pins ++ pinsAt fp s.heap) σ H s :=
  I.pins_of fun p hp => (List.mem_append.mp hp).elim (fun z => I.pin p (List.mem_append_right _ z)) fun z => by
    obtain ⟨hb, e⟩ := of_pinsAt z
    obtain ⟨f0, f1, f2, _⟩ := hf p.1 hb
    obtain ⟨o, e', d⟩ := ho p.1 hb
    rw [e] at e'; cases e'
    exact ⟨e, f0, f1, f2, d⟩
theorem Inv.unpinned {pins pl : List (Addr × Obj)} {σ : St} {H : Hp} {s : Shared} (I : Inv X (pins ++ pl) σ H s) : Inv X pins σ H s := I.pins_of fun p hp => I.pin p (List.mem_append_right _ (List.mem_append_left _ hp))
theorem ps_for {iter : Expr} {body : List Stmt} {wi : TI} {g : TG} {tb : TS} {pos : Pos} (hp : PassesOwn (model X.prog X.w) X.A X.env X.xe) (hc : X.calm = true) (hi : PI X tg iter wi) (hg : PG X tg g) (hb : PSs X body tb)
    (hs : ∀ x, foldedSetIterable iter X.env x = pure x := by intro _; rfl) : PS X (.For tg iter body [] pos) (tFor wi g tb) := by
  intro pins s σ H D I h
  refine wpAny_For (thn (hi pins s σ H _ I h) fun v s1 h1 => thn h1 fun itv s2 h2 => ?_) hs
  obtain ⟨it, fp, tn, J, H2, e, I2, T, st2, f2, W, ⟨m0, w0⟩, turn⟩ := h2
  subst e
  have stat : ∀ {H' : Hp}, (∀ b ∈ fp, H' b = none) → ∀ b ∈ fp, FpOk X pins H' b := fun hn b hb => ⟨hn b hb, (f2 b hb).2⟩
  refine codeAny_forLoop_any (fun n s' => ∃ i σ' H', Inv X pins σ' H' s' ∧ tn i s'.heap ∧ (∀ b ∈ fp, H' b = none) ∧ W i n σ' H') ?_ m0 ⟨0, σ, H2, I2, st2, fun b hb => (f2 b hb).1, w0⟩
  rintro n s3 ⟨i, σ3, H3, I3, st3, fr3, w3⟩
  rcases turn i n σ3 H3 w3 with ⟨stop, qn⟩ | ⟨go, N, hN, step⟩
  · refine wpAny_passesOwn hp (thn (T.done X rfl rfl rfl hc i pins s3 σ3 H3 X.xe I3 (stat fr3) st3 stop) fun r s4 ⟨hr, I4⟩ => ?_)
    subst hr
    exact wpAny_execs_nil ⟨σ3, H3, I4, qn⟩
  · refine wpAny_passesOwn hp (thn (T.item X rfl rfl rfl hc i pins s3 σ3 H3 X.xe I3 (stat fr3) st3 go) fun r s4 ⟨u, hr, h4⟩ => ?_)
    subst hr
    refine wpAny_passesOwn hp (thn h4 fun _ s5 ⟨x, H5, I5, r5, y5, st5, fr5⟩ => ?_)
    have I5' := I5.pinned (stat fr5) (T.obj _ _ st5)
    refine wpAny_passesOwn hp (thn (hg _ s5 σ3 H5 x u _ I5' r5 (step x H5 y5)) fun _ s6 ⟨σ6, H6, I6, q6⟩ => ?_)
    refine wpAny_passesOwn hp (thn (hb _ s6 σ6 H6 _ I6 q6) fun f s7 q7 => ?_)
    have again : ∀ {σ7 : St} {H7 : Hp}, Inv X (pins ++ pinsAt fp s5.heap) σ7 H7 s7 → N σ7 H7 → ∃ m, m < n ∧ ∃ i σ' H', Inv X pins σ' H' s7 ∧ tn i s7.heap ∧ (∀ b ∈ fp, H' b = none) ∧ W i m σ' H' := fun {σ7 H7} I7 n7 => by
      obtain ⟨m', hm, w7⟩ := hN σ7 H7 n7
      refine ⟨m', hm, i + 1, σ7, H7, I7.unpinned, T.keep _ _ _ st5 fun b hb o e => (I7.pin (b, o) (List.mem_append_right _ (List.mem_append_right _ (mem_pinsAt hb e)))).1, fun b hb => ?_, w7⟩
      obtain ⟨o, e, d⟩ := T.obj _ _ st5 b hb
      exact (I7.pin (b, o) (List.mem_append_right _ (List.mem_append_right _ (mem_pinsAt hb e)))).2.1
    cases f with
    | next => obtain ⟨σ7, H7, I7, n7⟩ := q7; exact again I7 n7
    | cont => obtain ⟨σ7, H7, I7, n7⟩ := q7; exact again I7 n7
    | brk => obtain ⟨σ7, H7, I7, q7⟩ := q7; exact ⟨σ7, H7, I7.unpinned, q7⟩
    | ret v => obtain ⟨x7, σ7, H7, I7, r7, q7⟩ := q7; exact ⟨x7, σ7, H7, I7.unpinned, r7, q7⟩
end
end L2
namespace L2
open PySem PySem.Spec PyProof.Rows
abbrev R2 := V → V → Hp → VK → Prop
def OpR (X : Cx) (f : Value → Value → Sem Value) (r : R2) : Prop :=
  ∀ (pins : List (Addr × Obj)) (s : Shared) (σ : St) (H : Hp) (x y : V) (v u : Value) (Q : VK), Inv X pins σ H s → RelV x v → RelV y u → r x y H Q →
    wpAny (model X.prog X.w) X.A (f v u) (EP X pins σ Q) X.xe s
def UnR (X : Cx) (f : Value → Sem Value) (r : V → Hp → VK → Prop) : Prop :=
  ∀ (pins : List (Addr × Obj)) (s : Shared) (σ : St) (H : Hp) (x : V) (v : Value) (Q : VK), Inv X pins σ H s → RelV x v → r x H Q →
    wpAny (model X.prog X.w) X.A (f v) (EP X pins σ Q) X.xe s
def CallR (X : Cx) (f : Value) (r : List V → Hp → VK → Prop) : Prop :=
  ∀ (pins : List (Addr × Obj)) (s : Shared) (σ : St) (H : Hp) (xs : List V) (us : List Value) (Q : VK), Inv X pins σ H s → Vals xs us → r xs H Q →
    wpAny (model X.prog X.w) X.A (call f us) (EP X pins σ Q) X.xe s
def TruR (X : Cx) (r : V → Hp → (Bool → Hp → Prop) → Prop) : Prop :=
  ∀ (pins : List (Addr × Obj)) (s : Shared) (σ : St) (H : Hp) (x : V) (v : Value) (Q : Bool → Hp → Prop), Inv X pins σ H s → RelV x v → r x H Q →
    wpAny (model X.prog X.w) X.A (truthy v) (TP X pins σ Q) X.xe s
def tOp (r : R2) (ta tb : TE) : TE := fun σ H Q => ta σ H fun x H1 => tb σ H1 fun y H2 => r x y H2 Q
def tUn (r : V → Hp → VK → Prop) (ta : TE) : TE := fun σ H Q => ta σ H fun x H1 => r x H1 Q
def rI (C : Int → Int → Prop) (g : Int → Int → V) : R2 := fun x y H Q => ∃ i j, x = .int i ∧ y = .int j ∧ C i j ∧ Q (g i j) H
def rI0 (g : Int → Int → V) : R2 := fun x y H Q => ∃ i j, x = .int i ∧ y = .int j ∧ Q (g i j) H
def rU (g : Int → V) : V → Hp → VK → Prop := fun x H Q => ∃ i, x = .int i ∧ Q (g i) H
section
variable {X : Cx} {a b c : Expr} {ta tb tc : TE} {pos : Pos}
theorem binT (ha : PE X a ta) (hb : PE X b tb) {pins : List (Addr × Obj)} {s : Shared} {σ : St} {H : Hp} {R : V → V → Hp → Prop} (I : Inv X pins σ H s)
    (h : ta σ H fun x H1 => tb σ H1 fun y H2 => R x y H2) {Q : Value → Shared → Prop} {f : Value → Value → Sem Value}
    (hf : ∀ v u s2 x y H2, Inv X pins σ H2 s2 → RelV x v → RelV y u → R x y H2 → wpAny (model X.prog X.w) X.A (f v u) Q X.xe s2) :
    wpAny (model X.prog X.w) X.A (eval a X.env) (fun v s₁ => wpAny (model X.prog X.w) X.A (eval b X.env) (fun u s₂ => wpAny (model X.prog X.w) X.A (f v u) Q X.xe s₂) X.xe s₁) X.xe s := by
  refine thn (ha pins s σ H _ I h) fun v s1 ⟨x, H1, I1, r1, q1⟩ => ?_
  refine thn (hb pins s1 σ H1 _ I1 q1) fun u s2 ⟨y, H2, I2, r2, q2⟩ => ?_
  exact hf v u s2 x y H2 I2 r1 r2 q2
theorem pe_op {op : Operator} {r : R2} (ho : OpR X (binaryOp op) r) (ha : PE X a ta) (hb : PE X b tb) : PE X (.BinOp a op b pos) (tOp r ta tb) := by
  intro pins s σ H Q I h
  exact wpAny_BinOp (binT ha hb I h fun v u s2 x y H2 I2 rx ry q => ho pins s2 σ H2 x y v u Q I2 rx ry q)
theorem pe_un {op : UnaryOp} {r : V → Hp → VK → Prop} (ho : UnR X (unaryOp op) r) (ha : PE X a ta) : PE X (.UnaryOp op a pos) (tUn r ta) := by
  intro pins s σ H Q I h
  exact UnaryOp_ (thn (ha pins s σ H _ I h) fun v s1 ⟨x, H1, I1, r1, q1⟩ => ho pins s1 σ H1 x v Q I1 r1 q1)
theorem opI {f : Value → Value → Sem Value} {C : Int → Int → Prop} {g : Int → Int → Int}
    (rule : ∀ (i j : Int) (t u : Tok) (s : Shared) (Q : Value → Shared → Prop) (E : Value → Shared → Prop), C i j → Q (.int (g i j) s.toks) { s with toks := s.toks + 1 } → wpAny (model X.prog X.w) X.A (f (.int i t) (.int j u)) Q E s) :
    OpR X f (rI C fun i j => .int (g i j)) := by
  intro pins s σ H x y v u Q I rx ry h
  obtain ⟨i, j, rfl, rfl, hc, q⟩ := h
  obtain ⟨t, rfl⟩ := rx
  obtain ⟨t', rfl⟩ := ry
  exact rule i j t t' s _ _ hc ⟨.int (g i j), H, I.tok _, ⟨_, rfl⟩, q⟩
theorem opI0 {f : Value → Value → Sem Value} {g : Int → Int → Int}
    (rule : ∀ (i j : Int) (t u : Tok) (s : Shared) (Q : Value → Shared → Prop) (E : Value → Shared → Prop), Q (.int (g i j) s.toks) { s with toks := s.toks + 1 } → wpAny (model X.prog X.w) X.A (f (.int i t) (.int j u)) Q E s) :
    OpR X f (rI0 fun i j => .int (g i j)) := by
  intro pins s σ H x y v u Q I rx ry h
  obtain ⟨i, j, rfl, rfl, q⟩ := h
  obtain ⟨t, rfl⟩ := rx
  obtain ⟨t', rfl⟩ := ry
  exact rule i j t t' s _ _ ⟨.int (g i j), H, I.tok _, ⟨_, rfl⟩, q⟩
theorem opB0 {f : Value → Value → Sem Value} {g : Int → Int → Bool}
    (rule : ∀ (i j : Int) (t u : Tok) (s : Shared) (Q : Value → Shared → Prop) (E : Value → Shared → Prop), Q (.bool (g i j)) s → wpAny (model X.prog X.w) X.A (f (.int i t) (.int j u)) Q E s) :
    OpR X f (rI0 fun i j => .bl (g i j)) := by
  intro pins s σ H x y v u Q I rx ry h
  obtain ⟨i, j, rfl, rfl, q⟩ := h
  obtain ⟨t, rfl⟩ := rx
  obtain ⟨t', rfl⟩ := ry
  exact rule i j t t' s _ _ ⟨.bl (g i j), H, I, rfl, q⟩
def CDiv (i j : Int) : Prop := 0 < j ∧ j < 1073741824
def CPow (i j : Int) : Prop := 0 ≤ j ∧ j ≤ 1000000 ∧ i.natAbs < 2 ^ 64
def CMul (i j : Int) : Prop := (-(2 ^ 64) < i ∧ i < 2 ^ 64) ∨ (-(2 ^ 64) < j ∧ j < 2 ^ 64)
theorem CMul.ok {i j : Int} (h : CMul i j) : IntMulOk i j := by
  rcases h with ⟨h1, h2⟩ | ⟨h1, h2⟩
  · exact .of_left (intBits_le_64 h1 h2)
  · exact .of_right (intBits_le_64 h1 h2)
theorem op_add : OpR X (binaryOp .Add) (rI0 fun i j => .int (i + j)) := opI0 fun _ _ _ _ _ _ _ q => add_int q
theorem op_sub : OpR X (binaryOp .Sub) (rI0 fun i j => .int (i - j)) := opI0 fun _ _ _ _ _ _ _ q => sub_int q
theorem op_mul : OpR X (binaryOp .Mult) (rI CMul fun i j => .int (i * j)) := opI fun _ _ _ _ _ _ _ hc q => mul_int q hc.ok
theorem op_fdiv : OpR X (binaryOp .FloorDiv) (rI CDiv fun i j => .int (i / j)) := opI fun i j _ _ _ _ _ hc q => by
  have h1 : (0 : Int) < j := hc.1
  have h2 : j < 1073741824 := hc.2
  exact floordiv_int (by omega) (by rw [Int.fdiv_eq_ediv_of_nonneg i (by omega)]; exact q) (.inl (PyProof.noPylong_small (by omega)))
theorem op_mod : OpR X (binaryOp .Mod) (rI (fun _ j => 0 < j) fun i j => .int (i % j)) := opI fun i j _ _ _ _ _ hc q => by
  have h1 : (0 : Int) < j := hc
  exact mod_int' (by omega) (by rw [Int.fmod_eq_emod_of_nonneg i (by omega)]; exact q)
theorem op_pow : OpR X (binaryOp .Pow) (rI CPow fun i j => .int (i ^ j.toNat)) := opI fun _ _ _ _ _ _ _ hc q => pow_int_small hc.1 hc.2.1 hc.2.2 q
theorem iop_add : OpR X (inplaceOp .Add) (rI0 fun i j => .int (i + j)) := opI0 fun _ _ _ _ _ _ _ q => iadd_int q
theorem unI {f : Value → Sem Value} {g : Int → Int}
    (rule : ∀ (i : Int) (t : Tok) (s : Shared) (Q : Value → Shared → Prop) (E : Value → Shared → Prop), Q (.int (g i) s.toks) { s with toks := s.toks + 1 } → wpAny (model X.prog X.w) X.A (f (.int i t)) Q E s) :
    UnR X f (rU fun i => .int (g i)) := by
  intro pins s σ H x v Q I rx h
  obtain ⟨i, rfl, q⟩ := h
  obtain ⟨t, rfl⟩ := rx
  exact rule i t s _ _ ⟨.int (g i), H, I.tok _, ⟨_, rfl⟩, q⟩
theorem un_neg : UnR X (unaryOp .USub) (rU fun i => .int (-i)) := unI fun _ _ _ _ _ q => neg_int q
end
section
variable {X : Cx} {a b c : Expr} {ta tb tc : TE} {pos : Pos}
theorem fin_bl {pins : List (Addr × Obj)} {σ : St} {H : Hp} {s : Shared} {Q : VK} {k k' : Bool} (I : Inv X pins σ H s) (q : Q (.bl k) H) (e : k = k') : EP X pins σ Q (.bool k') s := by
  subst e
  exact ⟨.bl k, H, I, rfl, q⟩
theorem op_lt : OpR X (compareOp .Lt) (rI0 fun i j => .bl (decide (i < j))) := opB0 fun _ _ _ _ _ _ _ q => lt_int q
theorem op_le : OpR X (compareOp .LtE) (rI0 fun i j => .bl (decide (i ≤ j))) := opB0 fun _ _ _ _ _ _ _ q => le_int q
theorem op_gt : OpR X (compareOp .Gt) (rI0 fun i j => .bl (decide (j < i))) := opB0 fun _ _ _ _ _ _ _ q => gt_int q
theorem op_ge : OpR X (compareOp .GtE) (rI0 fun i j => .bl (decide (j ≤ i))) := opB0 fun _ _ _ _ _ _ _ q => ge_int q
theorem op_lt_str : OpR X (compareOp .Lt) (fun x y H Q => ∃ i j, x = .str i ∧ y = .str j ∧ Q (.bl (decide (i.cps.toList < j.cps.toList))) H) := by
  intro pins s σ H x y v u Q I rx ry h
  obtain ⟨i, j, rfl, rfl, q⟩ := h
  obtain ⟨t, rfl⟩ := rx
  obtain ⟨t', rfl⟩ := ry
  exact lt_str (fin_bl I q rfl)
theorem op_in_str : OpR X (compareOp .In) (fun x y H Q => ∃ i j, x = .str i ∧ y = .str j ∧ Q (.bl (!(Builtin.Str.occurrences j i 0 j.length 1).isEmpty)) H) := by
  intro pins s σ H x y v u Q I rx ry h
  obtain ⟨i, j, rfl, rfl, q⟩ := h
  obtain ⟨t, rfl⟩ := rx
  obtain ⟨t', rfl⟩ := ry
  exact in_str (fin_bl I q rfl)
theorem op_notin_str : OpR X (compareOp .NotIn) (fun x y H Q => ∃ i j, x = .str i ∧ y = .str j ∧ Q (.bl (!(!(Builtin.Str.occurrences j i 0 j.length 1).isEmpty))) H) := by
  intro pins s σ H x y v u Q I rx ry h
  obtain ⟨i, j, rfl, rfl, q⟩ := h
  obtain ⟨t, rfl⟩ := rx
  obtain ⟨t', rfl⟩ := ry
  exact notIn_str (fin_bl I q rfl)
theorem OpR.or {f : Value → Value → Sem Value} {r r' : R2} (h : OpR X f r) (h' : OpR X f r') : OpR X f (fun x y H Q => r x y H Q ∨ r' x y H Q) := by
  intro pins s σ H x y v u Q I rx ry q
  rcases q with q | q
  · exact h pins s σ H x y v u Q I rx ry q
  · exact h' pins s σ H x y v u Q I rx ry q
theorem nomark (b : Expr) {op : CmpOp} (h : op ≠ .In := by decide) (h2 : op ≠ .NotIn := by decide) : behindInMarks op b = false := by
  have e1 : (op == CmpOp.In) = false := by cases op <;> first | rfl | exact absurd rfl h
  have e2 : (op == CmpOp.NotIn) = false := by cases op <;> first | rfl | exact absurd rfl h2
  cases b <;> simp [behindInMarks, e1, e2]
theorem pe_cmpR {op : CmpOp} {r : R2} (ho : OpR X (compareOp op) r) (ha : PE X a ta) (hb : PE X b tb) (hm : behindInMarks op b = false) : PE X (.Compare a [op] [b] pos) (tOp r ta tb) := by
  intro pins s σ H Q I h
  exact wpAny_Compare1 (binT ha hb I h fun v u s2 x y H2 I2 rx ry q => ho pins s2 σ H2 x y v u Q I2 rx ry q) hm
def tTest (t : TE) : TT := fun σ H Q => t σ H fun x H' => ∃ k, x = .bl k ∧ Q k H'
theorem pt_cmpR {op : CmpOp} {r : R2} (ho : OpR X (compareOp op) r) (ha : PE X a ta) (hb : PE X b tb) (hm : behindInMarks op b = false) : PT X (.Compare a [op] [b] pos) (tTest (tOp r ta tb)) := by
  intro pins s σ H Q I h
  refine wpAny_isTrue_Compare1 (thn (ha pins s σ H _ I h) fun v s1 ⟨x, H1, I1, r1, q1⟩ => thn (hb pins s1 σ H1 _ I1 q1) fun u s2 ⟨y, H2, I2, r2, q2⟩ =>
    thn (ho pins s2 σ H2 x y v u _ I2 r1 r2 q2) fun c s3 ⟨z, H3, I3, r3, k, e, q3⟩ => ?_) hm
  subst e
  cases r3
  exact wpAny_truthy_bool ⟨H3, I3, q3⟩
def tChain (r r' : R2) (ta tb tc : TE) : TE := fun σ H Q => ta σ H fun x H1 => tb σ H1 fun y H2 => r x y H2 fun z H3 => ∃ k, z = .bl k ∧
  (if k = true then tc σ H3 fun w' H4 => r' y w' H4 Q else Q (.bl false) H3)
theorem pe_chain {op op' : CmpOp} {r r' : R2} (ho : OpR X (compareOp op) r) (ho' : OpR X (compareOp op') r') (ha : PE X a ta) (hb : PE X b tb) (hc : PE X c tc)
    (hm : lastMarks [op, op'] [b, c] = false := by with_unfolding_all rfl) : PE X (.Compare a [op, op'] [b, c] pos) (tChain r r' ta tb tc) := by
  intro pins s σ H Q I h
  refine Compare_chain (thn (ha pins s σ H _ I h) fun v s1 ⟨x, H1, I1, r1, q1⟩ => chain_link (thn (hb pins s1 σ H1 _ I1 q1) fun u s2 ⟨y, H2, I2, r2, q2⟩ =>
    thn (ho pins s2 σ H2 x y v u _ I2 r1 r2 q2) fun d s3 ⟨z, H3, I3, r3, k, e, q3⟩ => ?_)) hm
  subst e
  cases r3
  refine wpAny_truthy_bool ?_
  cases k with
  | false => exact ite_ff ⟨.bl false, H3, I3, rfl, q3⟩
  | true => exact ite_tt (chain_last (thn (hc pins s3 σ H3 _ I3 q3) fun w' s4 ⟨z', H4, I4, r4, q4⟩ => ho' pins s4 σ H4 y z' u w' Q I4 r2 r4 q4))
def TruV (K : PySem.W.Frag) (x : V) (H : Hp) (k : Bool) : Prop :=
  match x with
  | .non => k = false
  | .bl b => k = b
  | .int i => k = (i != 0)
  | .str y => y.length ≤ sizeLine ∧ k = ((y.length : Int) != 0)
  | .byt y => y.size ≤ sizeLine ∧ k = ((y.size : Int) != 0)
  | .ref p => (∃ xs, SqL K H p xs ∧ k = !xs.isEmpty) ∨ (∃ xs, SqT K H p xs ∧ k = !xs.isEmpty) ∨ ∃ kvs, H p = some (.dK kvs) ∧ k = !kvs.isEmpty
  | _ => False
theorem isEmpty_kv {κ : Type} {kvs : List (κ × V)} {vs : List (κ × Value)} (r : KV kvs vs) : (!vs.isEmpty) = !kvs.isEmpty := by
  cases r <;> rfl
theorem isEmpty_of {xs : List V} {its : List Value} (r : Vals xs its) : (!its.toArray.isEmpty) = !xs.isEmpty := by
  cases r <;> simp
theorem line63 : (sizeLine : Nat) < 2 ^ 63 := by rw [sizeLine_eq]; decide
theorem tru_ok : TruR X (fun x H Q => ∃ k, TruV X.K x H k ∧ Q k H) := by
  intro pins s σ H x v Q I rx h
  obtain ⟨k, e, q⟩ := h
  have hl := line63
  have hs : sizeLine = 16777216 := sizeLine_eq
  cases x with
  | non =>
    cases rx
    have e' : k = false := e
    subst e'
    exact truthy_none ⟨H, I, q⟩
  | bl b =>
    cases rx
    have e' : k = b := e
    subst e'
    exact wpAny_truthy_bool ⟨H, I, q⟩
  | int i =>
    obtain ⟨t, rfl⟩ := rx
    have e' : k = (i != 0) := e
    subst e'
    exact PySem.P.truthy_int ⟨H, I, q⟩
  | str y =>
    obtain ⟨t, rfl⟩ := rx
    obtain ⟨hy, e'⟩ : y.length ≤ sizeLine ∧ k = ((y.length : Int) != 0) := e
    subst e'
    exact PySem.P.truthy_str (by omega) ⟨H, I.tok _, q⟩
  | byt y =>
    obtain ⟨t, rfl⟩ := rx
    obtain ⟨hy, e'⟩ : y.size ≤ sizeLine ∧ k = ((y.size : Int) != 0) := e
    subst e'
    exact PySem.W.truthy_bytes (by omega) ⟨H, I.tok _, q⟩
  | ref p =>
    cases rx
    have e' : (∃ xs, SqL X.K H p xs ∧ k = !xs.isEmpty) ∨ (∃ xs, SqT X.K H p xs ∧ k = !xs.isEmpty) ∨ ∃ kvs, H p = some (.dK kvs) ∧ k = !kvs.isEmpty := e
    rcases e' with ⟨xs, hx, e'⟩ | ⟨xs, hx, e'⟩ | ⟨kvs, hx, e'⟩
    · subst e'
      obtain ⟨its, r, pl, hz⟩ := I.list hx
      have hlen := r.length
      exact wpAny_truthy_list pl.isList (by simp only [List.size_toArray]; omega) ⟨H, I.tok _, by rw [isEmpty_of r]; exact q⟩
    · subst e'
      obtain ⟨its, r, pl, hz⟩ := I.tuple hx
      have hlen := r.length
      exact truthy_tuple pl (by simp only [List.size_toArray]; omega) ⟨H, I.tok _, by rw [isEmpty_of r]; exact q⟩
    · subst e'
      obtain ⟨hz, hS, vs, r, m⟩ : kvs.length ≤ sizeLine ∧ (p == sysModules) = false ∧ ∃ vs, KV kvs vs ∧ s.heap.DictOf (mixKind X.prog X.w) p vs := I.hok p _ hx
      have hlen : kvs.length = vs.length := Paired.length r
      exact wpAny_truthy_dict hS m (by omega) ⟨H, I.tok _, by rw [isEmpty_kv r]; exact q⟩
  | _ => exact (show False from e).elim
theorem pt_truth (ha : PE X a ta) (he : ∀ whole, isTrue a X.env whole = (do let v ← whole; standAt a.pos; holding [v] (truthy v))) :
    PT X a (fun σ H Q => ta σ H fun x H' => ∃ k, TruV X.K x H' k ∧ Q k H') := by
  intro pins s σ H Q I h
  exact isTrue_plain (thn (ha pins s σ H _ I h) fun v s1 ⟨x, H1, I1, r1, q1⟩ => tru_ok pins s1 σ H1 x v Q I1 r1 q1) (he _)
theorem op_add_str : OpR X (binaryOp .Add) (fun x y H Q => ∃ i j, x = .str i ∧ y = .str j ∧ i.length + j.length ≤ sizeLine ∧ Q (.str (i ++ j)) H) := by
  intro pins s σ H x y v u Q I rx ry h
  obtain ⟨i, j, rfl, rfl, hz, q⟩ := h
  obtain ⟨t, rfl⟩ := rx
  obtain ⟨t', rfl⟩ := ry
  exact add_str (fun t' tk => ⟨.str (i ++ j), H, I.tok _, ⟨_, rfl⟩, q⟩) hz
theorem iop_add_str : OpR X (inplaceOp .Add) (fun x y H Q => ∃ i j, x = .str i ∧ y = .str j ∧ i.length + j.length ≤ sizeLine ∧ Q (.str (i ++ j)) H) := by
  intro pins s σ H x y v u Q I rx ry h
  obtain ⟨i, j, rfl, rfl, hz, q⟩ := h
  obtain ⟨t, rfl⟩ := rx
  obtain ⟨t', rfl⟩ := ry
  exact iadd_str (fun t' tk => ⟨.str (i ++ j), H, I.tok _, ⟨_, rfl⟩, q⟩) hz
theorem vals1 {x : V} {us : List Value} (r : Vals [x] us) : ∃ u, us = [u] ∧ RelV x u := by
  cases r with
  | cons r1 r2 => cases r2; exact ⟨_, rfl, r1⟩
theorem vals2 {x y : V} {us : List Value} (r : Vals [x, y] us) : ∃ u w', us = [u, w'] ∧ RelV x u ∧ RelV y w' := by
  cases r with
  | cons r1 r2 =>
    cases r2 with
    | cons r3 r4 => cases r4; exact ⟨_, _, rfl, r1, r3⟩
theorem call_abs : CallR X (.builtin "abs") (fun xs H Q => ∃ i, xs = [.int i] ∧ Q (.int (if i < 0 then -i else i)) H) := by
  intro pins s σ H xs us Q I r h
  obtain ⟨i, rfl, q⟩ := h
  obtain ⟨u, rfl, t, rfl⟩ := vals1 r
  exact call_abs_int fun u tk => ⟨.int (if i < 0 then -i else i), H, I.tok _, ⟨_, rfl⟩, q⟩
end
end L2
namespace L2
open PySem PySem.Spec PyProof.Rows
structure ObjM (h : Heap) (x dx C : Addr) (mA : Str → Option Value) : Prop where
  obj : h.get? x = some (PySem.W.instObj C dx)
  ns : h.Ns1 dx mA
  ne : dx ≠ x
theorem lookIn_ns {h : Heap} {dx : Addr} {mA : Str → Option Value} (n : h.Ns1 dx mA) : ∃ od, h.get? dx = some od ∧ ∀ name, PySem.W.lookIn name od = some (mA name) := by
  obtain ⟨o, es, ep, ho, hd, hk, _, hm⟩ := n
  refine ⟨o, ho, fun name => ?_⟩
  have e := hm name
  unfold nsFind findBy at e
  rw [← Array.find?_toList] at e
  unfold PySem.W.lookIn
  rw [hd]
  dsimp only
  split
  · rename_i y q
    rw [q] at e
    exact congrArg some e
  · rename_i q
    rw [q] at e
    have a : es.toList.any (·.refKey) = false := by
      rw [List.any_eq_false]
      intro y hy
      obtain ⟨z, t, hkey⟩ := hk y (Array.mem_toList_iff.mp hy)
      simp [DictEntry.refKey, hkey]
    have a' : ¬ es.toList.any (·.refKey) = true := by rw [a]; exact Bool.false_ne_true
    rw [if_neg a']
    exact congrArg some e
theorem ObjM.look {h : Heap} {x dx C : Addr} {mA : Str → Option Value} (I : ObjM h x dx C mA) : ∃ od, PySem.W.InstAt h x (PySem.W.instObj C dx) C (some od) ∧ ∀ name, PySem.W.lookIn name od = some (mA name) :=
  let ⟨od, ho, hl⟩ := lookIn_ns I.ns
  ⟨od, ⟨I.obj, rfl, rfl, ho⟩, hl⟩
section
variable {prog : Program} {w : World} {A : Around} {E : Value → Shared → Prop} {s : Shared} {K : PySem.W.Frag} {x dx C f : Addr} {mA : Str → Option Value} {name : Str} {v : Value}
end
section
variable {P : Program} {w : World} {H H' : Hp} {h h' : Heap} {a C dx : Addr} {fs fs' : List (Str × V)}
theorem ins_get (hok : HOk P w H h) (e : H a = some (.ins C dx fs)) : ∃ mA, ObjM h a dx C mA ∧ (∀ f, RelO (fs.lookup f) (mA f)) ∧ PySem.Within mA (fs.map (·.1)) ∧ fs.length ≤ 1000 ∧ H dx = some (.own a) := by
  obtain ⟨d, z, ne, ob, mA, n, r, q⟩ := (show ObjOk P w H h a (.ins C dx fs) from hok a _ e)
  exact ⟨mA, ⟨ob, n, ne⟩, r, q, z, d⟩
end
structure Cls (K : PySem.W.Frag) (C : Addr) : Prop where
  pg : PySem.W.plainGet K C Str.empty = true
  hd : PySem.W.hasDictIn K C = true
  po : PySem.W.plainOver K C = true
  sa : PySem.W.findIn K (.ref C) "__setattr__" = some (some (.builtin "object.__setattr__"))
theorem Cls.get {K : PySem.W.Frag} {C : Addr} (c : Cls K C) (f : Str) : PySem.W.plainGet K C f = true := c.pg
section
variable {X : Cx} {pins : List (Addr × Obj)} {σ : St} {H : Hp} {s : Shared} {a C dx : Addr} {fs : List (Str × V)} {f : Str} {v : V} {A : Around} {E : Value → Shared → Prop}
end
section
variable {X : Cx} {o e value : Expr} {f : Str} {pos pos' tpos : Pos} {ta tv : TE}
end
section
variable {X : Cx} {pins : List (Addr × Obj)} {σ : St} {H : Hp} {s : Shared} {A : Around} {E : Value → Shared → Prop} {Q : Value → Shared → Prop} {c : Value} {b : Bool}
inductive TyOf (K : PySem.W.Frag) (H : Hp) : V → Value → Prop where
  | non : TyOf K H .non (.type "NoneType")
  | bl (x : Bool) : TyOf K H (.bl x) (.type "bool")
  | int (i : Int) : TyOf K H (.int i) (.type "int")
  | str (x : Str) : TyOf K H (.str x) (.type "str")
  | flt (x : UInt64) : TyOf K H (.flt x) (.type "float")
  | lst {a : Addr} {xs : List V} (e : H a = some (.lst xs)) : TyOf K H (.ref a) (.type "list")
  | frz {a : Addr} {o : Obj} {xs : List V} (e : H a = some (.frz o (.lst xs))) : TyOf K H (.ref a) (.type "list")
  | tup {a : Addr} {xs : List V} (e : H a = some (.tup xs)) : TyOf K H (.ref a) (.type "tuple")
  | dK {a : Addr} {kvs : List (Key × V)} (e : H a = some (.dK kvs)) : TyOf K H (.ref a) (.type "dict")
  | dT {a : Addr} {kvs : List (List Key × V)} (e : H a = some (.dT kvs)) : TyOf K H (.ref a) (.type "dict")
  | ins {a C dx : Addr} {fs : List (Str × V)} (e : H a = some (.ins C dx fs)) (cl : Cls K C) (ha : PySem.W.findIn K (.ref C) "__class__" = some (some (.builtin "object.__class__")))
      (hn : PySem.W.specialIn K (.builtin "object.__class__") "__get__" = some (some (.builtin "getset_descriptor.__get__"))) (htk : PySem.W.takesIn K (.builtin "object.__class__") = some true)
      (hm : PySem.W.mroIn K C (.type "object") = some true) : TyOf K H (.ref a) (.ref C)
theorem isinst_ok {x : V} {u t : Value} (I : Inv X pins σ H s) (rx : RelV x u) (ty : TyOf X.K H x t) (e : PySem.W.kitOne X.K t c = some b) (h : ∀ tk, Q (.bool b) { s with toks := tk }) :
    wpAny (model X.prog X.w) A (call (.builtin "isinstance") [u, c]) Q E s := by
  cases ty with
  | non => cases (show u = Value.none from rx); exact PySem.W.kia_one PySem.W.kitx_none I.kIn True.intro e (fun z => nomatch z) h
  | bl y => cases (show u = Value.bool y from rx); exact PySem.W.kia_one PySem.W.kitx_bool I.kIn True.intro e (fun z => nomatch z) h
  | int i => obtain ⟨t, q⟩ := (show ∃ t, u = Value.int i t from rx); cases q; exact PySem.W.kia_one PySem.W.kitx_int I.kIn True.intro e (fun z => nomatch z) h
  | str y => obtain ⟨t, q⟩ := (show ∃ t, u = Value.str y t from rx); cases q; exact PySem.W.kia_one PySem.W.kitx_str I.kIn True.intro e (fun z => nomatch z) h
  | flt y => obtain ⟨t, q⟩ := (show ∃ t, u = Value.float y t from rx); cases q; exact PySem.W.kia_one PySem.W.kitx_float I.kIn True.intro e (fun z => nomatch z) h
  | @lst a xs ea =>
    cases (show u = Value.ref a from rx)
    obtain ⟨_, _, n, _, h1⟩ := (show ObjOk X.prog X.w H s.heap a (.lst xs) from I.hok a _ ea)
    exact PySem.W.kia_one PySem.W.kitx_list I.kIn ⟨_, h1, rfl⟩ e (fun z => nomatch z) h
  | @frz a ob xs ea =>
    cases (show u = Value.ref a from rx)
    obtain ⟨_, _, _, n, _, h1⟩ := (show ObjOk X.prog X.w H s.heap a (.frz ob (.lst xs)) from I.hok a _ ea)
    exact PySem.W.kia_one PySem.W.kitx_list I.kIn ⟨_, h1, rfl⟩ e (fun z => nomatch z) h
  | @tup a xs ea =>
    cases (show u = Value.ref a from rx)
    obtain ⟨_, _, _, p⟩ := (show ObjOk X.prog X.w H s.heap a (.tup xs) from I.hok a _ ea)
    obtain ⟨o, h1, h2, _⟩ := p
    exact PySem.W.kia_one PySem.W.kitx_tuple I.kIn ⟨o, h1, h2⟩ e (fun z => nomatch z) h
  | @dK a kvs ea =>
    cases (show u = Value.ref a from rx)
    obtain ⟨_, _, vs, _, p⟩ := (show ObjOk X.prog X.w H s.heap a (.dK kvs) from I.hok a _ ea)
    obtain ⟨o, es, ep, h1, h2, _⟩ := p
    exact PySem.W.kia_one PySem.W.kitx_dict I.kIn ⟨o, h1, h2.1⟩ e (fun z => nomatch z) h
  | @dT a kvs ea =>
    cases (show u = Value.ref a from rx)
    obtain ⟨_, _, xs, _, o, es, ep, h1, h2, _⟩ := (show ObjOk X.prog X.w H s.heap a (.dT kvs) from I.hok a _ ea)
    exact PySem.W.kia_one PySem.W.kitx_dict I.kIn ⟨o, h1, h2.1⟩ e (fun z => nomatch z) h
  | @ins a C dx fs ea cl ha hn htk hm =>
    cases (show u = Value.ref a from rx)
    obtain ⟨mA, O, _⟩ := ins_get I.hok ea
    obtain ⟨od, J, _⟩ := O.look
    exact PySem.W.kia_one (PySem.W.kitx_own (cl.get _) cl.hd ha hn htk hm) I.kIn J e (fun z => nomatch z) h
end
end L2
namespace L2
open PySem PySem.Spec PyProof.Rows
structure Room (k : Nat) (A : Around) : Prop where
  hd : A.handled = none
  dp : A.depth + 3 * k + 5 < recursionLimit
  un : A.units + 16 * k + 200 < cLine
  gd : A.guards = some []
theorem Room.mono {j k : Nat} {A : Around} (r : Room k A) (h : j ≤ k) : Room j A := ⟨r.hd, by have := r.dp; omega, by have := r.un; omega, r.gd⟩
theorem Room.deeper {k : Nat} {A : Around} (r : Room (k + 1) A) (env : Env) : Room k (A.deeper env) :=
  ⟨r.hd, by have := r.dp; show A.depth + 1 + 3 * k + 5 < _; omega, by have := r.un; show A.units + 3 + 16 * k + 200 < _; omega, r.gd⟩
theorem Room.depth {k : Nat} {A : Around} (r : Room k A) : A.depth < recursionLimit := by have := r.dp; omega
theorem Room.units {k : Nat} {A : Around} (r : Room k A) : A.units + 64 < cLine := by have := r.un; omega
def tNil : TA := fun _ H Q => Q [] H
def tCons (ta : TE) (tr : TA) : TA := fun σ H Q => ta σ H fun x H1 => tr σ H1 fun xs H2 => Q (x :: xs) H2
section
variable {X : Cx} {e : Expr} {es : List Expr} {te : TE} {t : TA} {pos : Pos}
theorem pa_nil : PA X [] tNil := fun _ _ _ _ H Q I h => Calls.spliced_nil ⟨[], H, I, .nil, h⟩
theorem pa_cons (ha : PE X e te) (hr : PA X es t) (hs : starEach (e :: es) X.env = (false, eval e X.env) :: starEach es X.env := by rfl) : PA X (e :: es) (tCons te t) := by
  intro pos pins s σ H Q I h
  rw [hs]
  show wpAny _ _ (spliced ((false, eval e X.env) :: backTo pos (starEach es X.env))) _ _ s
  refine Calls.spliced_cons (thn (ha pins s σ H _ I h) fun u s1 ⟨x, H1, I1, r1, q1⟩ => ?_)
  exact thn (hr pos pins s1 σ H1 _ I1 q1) fun us s2 ⟨xs, H2, I2, r2, q2⟩ => ⟨x :: xs, H2, I2, .cons r1 r2, q2⟩
def tTup (t : TA) : TE := fun σ H Q => t σ H fun xs H1 => xs.length ≤ sizeLine ∧ ∀ p, H1 p = none → Q (.ref p) (upd H1 p (.tup xs))
def tLst (t : TA) : TE := fun σ H Q => t σ H fun xs H1 => xs.length ≤ sizeLine ∧ ∀ p, H1 p = none → Q (.ref p) (upd H1 p (.lst xs))
theorem pe_tup {x1} (h : PA X es t) : PE X (.Tuple es x1 pos) (tTup t) := by
  intro pins s σ H Q I hq
  refine wpAny_Tuple_spliced (thn (h pos pins s σ H _ I hq) fun us s1 ⟨xs, H1, I1, r, z, q⟩ => ⟨by rw [← r.length]; exact z, ?_⟩)
  have hf : H1 s1.heap.objs.size = none := I1.hok.fresh (Nat.le_refl _)
  refine ⟨.ref s1.heap.objs.size, upd H1 s1.heap.objs.size (.tup xs), I1.laid (t' := s1.toks) (fun b u e => Heap.get?_push_of_some _ e) (Nat.le_refl _) ?_, rfl, q _ hf⟩
  exact ⟨z, us, r, ⟨_, Heap.get?_push_size _ rfl, rfl, _, rfl⟩⟩
theorem pe_lst (h : PA X es t) : PE X (.List es pos) (tLst t) := by
  intro pins s σ H Q I hq
  refine wpAny_List_spliced (thn (h pos pins s σ H _ I hq) fun us s1 ⟨xs, H1, I1, r, z, q⟩ => ⟨by rw [← r.length]; exact z, ?_⟩)
  have hf : H1 s1.heap.objs.size = none := I1.hok.fresh (Nat.le_refl _)
  refine ⟨.ref s1.heap.objs.size, upd H1 s1.heap.objs.size (.lst xs), I1.laid (t' := s1.toks) (fun b u e => Heap.get?_push_of_some _ e) (Nat.le_refl _) ?_, rfl, q _ hf⟩
  exact ⟨z, us, 0, r, Heap.get?_push_size _ rfl⟩
end
abbrev Sp := List V → Hp → VK → XK → Prop
abbrev CXT := List Env → Hp → Shared → XK → Value → Shared → Prop
structure Env0 (P : Program) (w : World) (K : PySem.W.Frag) (mg : Str → Option Value) (base : Heap) (A : Around) (outer : List Env) (s : Shared) (H : Hp) : Prop where
  frames : A.frames = some outer
  mod : Mod K mg base
  bs : ∀ b o, base.get? b = some o → s.heap.get? b = some o ∧ H b = none
  bsz : base.objs.size ≤ s.heap.objs.size
  funs : s.heap.FunFrames base outer
  frf : ∀ b ∈ frs outer, H b = none
  hok : HOk P w H s.heap
  bare : AllBare s.gens
def CE (outer : List Env) (P : Program) (w : World) (H : Hp) (s : Shared) (Q : VK) (u : Value) (s' : Shared) : Prop :=
  ∃ v H', s'.os = s.os ∧ AllBare s'.gens ∧ Un (frs outer) [] H H' s.heap s'.heap ∧ HOk P w H' s'.heap ∧ RelV v u ∧ Q v H'
def CR (CX : CXT) (outer : List Env) (P : Program) (w : World) (H : Hp) (s : Shared) (Q : VK) (E : XK) (r : Result) (s' : Shared) : Prop :=
  match r with
  | .ok (.ret u) => CE outer P w H s Q u s'
  | .ok _ => False
  | .error e => CX outer H s E e s'
structure FnOk (P : Program) (w : World) (K : PySem.W.Frag) (mg : Str → Option Value) (base : Heap) (CX : CXT) (k : Nat) (f : Addr) (fd : FuncData) (ps : List Str) (sp : Sp) : Prop where
  len : ∀ vs H Q E, sp vs H Q E → vs.length = ps.length
  run : ∀ (A : Around) (outer : List Env) (s : Shared) (H : Hp) (args : Args) (us : List Value) (vs : List V) (Q : VK) (E : XK), Room k A → Env0 P w K mg base A outer s H → BindsTo s fd args (ps.zip us) → Vals vs us → sp vs H Q E →
    codeAny (model P w) A (.call (.ref f) args) (CR CX outer P w H s Q E) s
theorem FnOk.imp {P : Program} {w : World} {K : PySem.W.Frag} {mg : Str → Option Value} {base : Heap} {CX : CXT} {k : Nat} {f : Addr} {fd : FuncData} {ps : List Str} {sp sp' : Sp} (F : FnOk P w K mg base CX k f fd ps sp)
    (h : ∀ vs H Q E, sp' vs H Q E → sp vs H Q E) : FnOk P w K mg base CX k f fd ps sp' :=
  ⟨fun vs H Q E q => F.len vs H Q E (h _ _ _ _ q), fun A outer s H args us vs Q E hr he hb hv hs => F.run A outer s H args us vs Q E hr he hb hv (h _ _ _ _ hs)⟩
section
variable {X : Cx} {pins : List (Addr × Obj)} {σ : St} {H : Hp} {s s' : Shared}
theorem Inv.env0 (I : Inv X pins σ H s) : Env0 X.prog X.w X.K X.mg X.base X.A X.stack s H :=
  ⟨I.ok.frames, I.ok.mod, I.bs, Nat.le_trans I.ok.bsz I.sz, I.stack, I.stkFree, I.hok, I.bare⟩
theorem Inv.after {Q : VK} {u : Value} (I : Inv X pins σ H s) (h : CE X.stack X.prog X.w H s Q u s') : EP X pins σ Q u s' := by
  obtain ⟨v, H', os, bare, un, hok, r, q⟩ := h
  obtain ⟨hh, g, d, t, os'⟩ := s'
  obtain rfl : os' = s.os := os
  exact ⟨v, H', I.call (h' := hh) (g' := g) (d' := d) (t' := t) (ch := []) un hok bare (fun b z => absurd z (by simp)), r, q⟩
end
def tCall (sp : Sp) (dvs : List V) (E : XK) (t : TA) : TE := fun σ H Q => t σ H fun vs H1 => sp (vs ++ dvs) H1 Q E
def Binds (K : PySem.W.Frag) (fd : FuncData) (ps : List Str) (ds : List Value) : Prop :=
  ∀ (s : Shared) (us : List Value), K.In s.heap → (us ++ ds).length = ps.length → BindsTo s fd ⟨us, []⟩ (ps.zip (us ++ ds))
theorem Binds.all {K : PySem.W.Frag} {fd : FuncData} {ps : List Str} (h : ∀ us : List Value, us.length = ps.length → bindArgs fd ⟨us, []⟩ = pure (ps.zip us)) : Binds K fd ps [] := fun s us _ hl => by
  rw [List.append_nil] at hl ⊢
  exact .of_eq (h us hl)
def Passes (CX : CXT) (X : Cx) (E : XK) : Prop := ∀ (pins : List (Addr × Obj)) (σ : St) (H : Hp) (s : Shared) (e : Value) (s' : Shared), Inv X pins σ H s → CX X.stack H s E e s' → X.xe e s'
section
variable {X : Cx} {CX : CXT} {k : Nat} {f C : Addr} {fd : FuncData} {ps : List Str} {sp : Sp} {dvs : List V} {ds : List Value} {E : XK} {x m : Str} {p pos apos : Pos} {e o : Expr} {es : List Expr} {ta : TE} {t : TA}
theorem run_fn {pins : List (Addr × Obj)} {σ : St} {H : Hp} {s : Shared} {Q : VK} {us : List Value} {vs : List V} (F : FnOk X.prog X.w X.K X.mg X.base CX k f fd ps sp) (hr : Room k X.A) (hb : Binds X.K fd ps ds) (hd : Vals dvs ds) (hx : Passes CX X E)
    (I : Inv X pins σ H s) (r : Vals vs us) (h : sp (vs ++ dvs) H Q E) : wpAny (model X.prog X.w) X.A (call (.ref f) us) (EP X pins σ Q) X.xe s := by
  have r2 : Vals (vs ++ dvs) (us ++ ds) := r.append hd
  have hl : (us ++ ds).length = ps.length := by rw [← r2.length]; exact F.len _ _ _ _ h
  refine wpAny_call (codeAny_mono (F.run X.A X.stack s H ⟨us, []⟩ (us ++ ds) (vs ++ dvs) Q E hr I.env0 (hb s us I.kIn hl) r2 h) fun r s' hq => ?_)
  cases r with
  | error e => exact hx pins σ H s e s' I hq
  | ok fl =>
    cases fl with
    | ret u => exact I.after hq
    | next => exact False.elim hq
    | brk => exact False.elim hq
    | cont => exact False.elim hq
theorem pe_call (F : FnOk X.prog X.w X.K X.mg X.base CX k f fd ps sp) (hr : Room k X.A) (hg : Gl X x) (hm : X.mg x = some (.ref f)) (hk : PySem.W.keepIn X.K (.ref f) = true) (hb : Binds X.K fd ps ds) (hd : Vals dvs ds) (hx : Passes CX X E)
    (ha : PA X (e :: es) t) (hdb : (x == ("__debug__" : Str)) = false := by decide) (he : starEach (e :: es) X.env = (false, eval e X.env) :: starEach es X.env := by rfl) (hpl : (backTo pos (starEach es X.env)).any (·.1) = false := by rfl) :
    PE X (.Call (.Name x p) (e :: es) [] pos) (tCall sp dvs E t) := by
  intro pins s σ H Q I h
  refine wpAny_Call_Name_kw (ld_glob I hg hm ?_ hdb)
  refine PySem.W.callWith_K (h₀ := X.base) I.ok.mod.kin hk (thn (ha pos pins s σ H _ I h) fun us s1 ⟨vs, H1, I1, r, q⟩ => ⟨I1.kIn, ?_⟩) he hpl
  exact run_fn F hr hb hd hx I1 r q
theorem pe_call0 (F : FnOk X.prog X.w X.K X.mg X.base CX k f fd ps sp) (hr : Room k X.A) (hg : Gl X x) (hm : X.mg x = some (.ref f)) (hk : PySem.W.keepIn X.K (.ref f) = true) (hb : Binds X.K fd ps ds) (hd : Vals dvs ds) (hx : Passes CX X E)
    (hdb : (x == ("__debug__" : Str)) = false := by decide) : PE X (.Call (.Name x p) [] [] pos) (tCall sp dvs E tNil) := by
  intro pins s σ H Q I h
  refine wpAny_Call_Name_kw (ld_glob I hg hm ?_ hdb)
  exact PySem.W.callWith_K0 I.kIn hk (run_fn (us := []) F hr hb hd hx I .nil h)
end
section
variable {X : Cx} {CX : CXT} {k : Nat} {f C : Addr} {fd : FuncData} {ps ks : List Str} {sp : Sp} {E : XK} {x m : Str} {p pos apos kpos : Pos} {e o : Expr} {es : List Expr} {kws : List Keyword} {te ta : TE} {t tk : TA} {nm : Option Str}
variable {g : List Value → List Value → List Value} {gV : List V → List V → List V}
end
structure FnScope (N P : List Str) (sc : Scope) : Prop where
  kind : sc.kind = .function
  co : sc.isCoroutine = false
  gen : sc.isGenerator = false
  nd : N.Nodup
  pre : N.take P.length = P
  par : ∀ x ∈ P, sc.names.lookup x = some .local ∨ sc.names.lookup x = some .cell
  nofree : ∀ y ∈ sc.names, y.2 ≠ .free
theorem bindL_out {kindOf : Str → Option NameKind} {x : Str} : ∀ {binds : List (Str × Value)} {m : Str → Option Value}, (∀ v, (x, v) ∉ binds) → bindL kindOf binds m x = m x
  | [], _, _ => rfl
  | (n, v) :: r, m, h => by
    unfold bindL
    rw [bindL_out fun w hw => h w (List.mem_cons_of_mem _ hw)]
    split
    · have : x ≠ n := by rintro rfl; exact h v List.mem_cons_self
      simp [this]
    · rfl
theorem bindC_out {kindOf : Str → Option NameKind} {x : Str} : ∀ {binds : List (Str × Value)} {m : Str → Option Value}, (∀ v, (x, v) ∉ binds) → bindC kindOf binds m x = m x
  | [], _, _ => rfl
  | (n, v) :: r, m, h => by
    unfold bindC
    rw [bindC_out fun w hw => h w (List.mem_cons_of_mem _ hw)]
    split
    · rfl
    · have : x ≠ n := by rintro rfl; exact h v List.mem_cons_self
      simp [this]
theorem bindL_get {kindOf : Str → Option NameKind} {x : Str} {v : Value} : ∀ {P : List Str} {vs : List Value} {i : Nat} {m : Str → Option Value}, P.Nodup → P[i]? = some x → vs[i]? = some v → kindOf x = some .local →
    bindL kindOf (P.zip vs) m x = some v
  | [], _, _, _, _, h, _, _ => by simp at h
  | _ :: _, [], _, _, _, _, h, _ => by simp at h
  | p :: P, w :: vs, 0, m, nd, h1, h2, hk => by
    simp at h1 h2; subst h1; subst h2
    show bindL kindOf ((p, w) :: P.zip vs) m p = _
    unfold bindL
    rw [bindL_out fun v hv => (List.nodup_cons.mp nd).1 (List.of_mem_zip hv).1, if_pos hk]
    simp
  | p :: P, w :: vs, i + 1, m, nd, h1, h2, hk => by
    show bindL kindOf ((p, w) :: P.zip vs) m x = _
    unfold bindL
    exact bindL_get (i := i) (List.nodup_cons.mp nd).2 (by simpa using h1) (by simpa using h2) hk
theorem bindC_get {kindOf : Str → Option NameKind} {x : Str} {v : Value} : ∀ {P : List Str} {vs : List Value} {i : Nat} {m : Str → Option Value}, P.Nodup → P[i]? = some x → vs[i]? = some v → kindOf x ≠ some .local →
    bindC kindOf (P.zip vs) m x = some v
  | [], _, _, _, _, h, _, _ => by simp at h
  | _ :: _, [], _, _, _, _, h, _ => by simp at h
  | p :: P, w :: vs, 0, m, nd, h1, h2, hk => by
    simp at h1 h2; subst h1; subst h2
    show bindC kindOf ((p, w) :: P.zip vs) m p = _
    unfold bindC
    rw [bindC_out fun v hv => (List.nodup_cons.mp nd).1 (List.of_mem_zip hv).1, if_neg hk]
    simp
  | p :: P, w :: vs, i + 1, m, nd, h1, h2, hk => by
    show bindC kindOf ((p, w) :: P.zip vs) m x = _
    unfold bindC
    exact bindC_get (i := i) (List.nodup_cons.mp nd).2 (by simpa using h1) (by simpa using h2) hk
def start (N : List Str) (vs : List V) : St := vs.map some ++ List.replicate (N.length - vs.length) none
def cxOf (CX : CXT) (P : Program) (w : World) (K : PySem.W.Frag) (mg : Str → Option Value) (base : Heap) (N : List Str) (qual : Str) (scope : Scope) (f : Addr) (cd : Value) (A : Around) (outer : List Env) (s : Shared) (H : Hp) (E : XK) : Cx where
  prog := P
  w := w
  K := K
  mg := mg
  base := base
  A := A.deeper (envOfC qual scope s.heap.objs.size f cd)
  N := N
  s₀ := s
  H₀ := H
  env := envOfC qual scope s.heap.objs.size f cd
  outer := outer
  stack := envOfC qual scope s.heap.objs.size f cd :: outer
  ex := []
  calm := true
  fn := fun _ => true
  pn := []
  xe := fun e s' => wpAny (model P w) (A.deeper (envOfC qual scope s.heap.objs.size f cd)) (leaving (envOfC qual scope s.heap.objs.size f cd) e) (fun _ s'' => CX outer H s E e s'') (fun e' s'' => CX outer H s E e' s'') s'
theorem cell_has {sc : Scope} {n : Nat} {x : Str} (h : sc.names.lookup x = some .cell) : ∃ c, (cellsFrom n sc.names []).lookup x = some c := by
  have q := PySem.W.cellsFrom_some sc.names n [] (.inl h)
  exact Option.isSome_iff_exists.mp q
theorem inv_start {CX : CXT} {P : Program} {w : World} {K : PySem.W.Frag} {mg : Str → Option Value} {base : Heap} {N ps : List Str} {qual : Str} {scope : Scope} {f : Addr} {cd : Value} {A : Around} {outer : List Env} {s s1 : Shared} {H : Hp} {E : XK} {us : List Value} {vs : List V}
    (S : FnScope N ps scope) (hd : A.handled = none) (e0 : Env0 P w K mg base A outer s H) (hl : vs.length = ps.length) (r : Vals vs us)
    (x : InCallC s s.heap.objs.size (bindL (envOfC qual scope s.heap.objs.size f cd).kindOf (ps.zip us) fun _ => none) (cellsFrom (s.heap.objs.size + 1) scope.names []) (bindC (envOfC qual scope s.heap.objs.size f cd).kindOf (ps.zip us) fun _ => none) s1) :
    Inv (cxOf CX P w K mg base N qual scope f cd A outer s H E) [] (start N vs) H s1 := by
  have hpl : ps.length ≤ N.length := by have := congrArg List.length S.pre; rw [List.length_take] at this; omega
  obtain ⟨h1, tk, rfl, hk⟩ := x.done
  have noA : ∀ b : Addr, b ∉ (cxOf CX P w K mg base N qual scope f cd A outer s H E).ex := fun b z => absurd (show b ∈ ([] : List Addr) from z) (by simp)
  refine ⟨⟨e0.mod, S.kind, rfl, rfl, Nat.le_refl _, fun y z c h1 h2 => ?_, fun y hy => ?_, fun y c _ h => ?_, fun _ => hd, Around.frames_deeper e0.frames, .inr ⟨rfl, rfl⟩, fun b z => absurd z (noA b), e0.bs, e0.bsz, fun b _ _ => noA b, fun b z => absurd z (noA b), e0.funs, e0.frf⟩,
    rfl, e0.bare, Un.kept hk, ⟨_, x.toInCall.ns, fun i y v h1 h2 h3 => ?_⟩, fun y c h => ⟨_, x.cell y c h⟩, e0.hok.fresh (Nat.le_refl _), fun y c h => ?_, fun p hp => absurd (show p ∈ ([] : List (Addr × Obj)) from hp) (by simp), e0.hok.kept hk, ?_⟩
  · exact name_of_addr x.apart (PySem.mem_of_lookup h1) (PySem.mem_of_lookup h2)
  · have hy : scope.names.lookup y = some .cell ∨ scope.names.lookup y = some .free := hy
    rcases hy with hy | hy
    · exact cell_has hy
    · exact absurd rfl (S.nofree _ (PySem.mem_of_lookup hy))
  · exact Nat.le_of_lt (x.above y c (PySem.mem_of_lookup h))
  · have hi : i < vs.length := by
      unfold start at h2
      by_cases hi : i < vs.length
      · exact hi
      · rw [List.getElem?_append_right (by simpa using hi)] at h2
        rw [List.getElem?_replicate] at h2
        split at h2 <;> cases h2
    have ha : vs[i]? = some v := by
      unfold start at h2
      rw [List.getElem?_append_left (by simpa using hi), List.getElem?_map] at h2
      cases e : vs[i]? with
      | none => rw [e] at h2; cases h2
      | some a => rw [e] at h2; cases h2; rfl
    obtain ⟨u, hu, rv⟩ := r.get ha
    have hp : ps[i]? = some y := by
      rw [← S.pre, List.getElem?_take_of_lt (by omega)]; exact h1
    have ndP : ps.Nodup := by rw [← S.pre]; exact S.nd.sublist (List.take_sublist _ _)
    refine ⟨u, rv, ?_⟩
    rcases S.par y (List.mem_of_getElem? hp) with k | k
    · exact .inl ⟨k, bindL_get ndP hp hu k⟩
    · obtain ⟨c, e⟩ := cell_has (n := s.heap.objs.size + 1) k
      refine .inr ⟨.inl k, c, e, ?_⟩
      have q := x.cell y c e
      rw [bindC_get ndP hp hu (by show scope.names.lookup y ≠ _; rw [k]; decide)] at q
      exact q
  · exact e0.hok.fresh (Nat.le_of_lt (x.above y c (PySem.mem_of_lookup h)))
  · unfold start
    show _ = N.length
    rw [List.length_append, List.length_map, List.length_replicate]
    omega
theorem fn_of {CX : CXT} {P : Program} {w : World} {K : PySem.W.Frag} {mg : Str → Option Value} {base : Heap} {k : Nat} {f : Addr} {name qual : Str} {params : Arguments} {body : List Stmt} {scope : Scope} {dV kV doc pm cdv ct oc : Value} {an od : Option Addr}
    {osl : Array (Option Value)} {N ps : List Str} {sp : Sp} (lk : K.lookup f = some ⟨oc, od, .func (PySem.W.fnOf name qual params body scope dV kV doc pm an cdv ct), osl⟩) (hcd : PySem.W.codeIn K cdv qual = true) (S : FnScope N ps scope)
    (len : ∀ vs H Q E, sp vs H Q E → vs.length = ps.length)
    (hbody : ∀ (A : Around) (outer : List Env) (s : Shared) (H : Hp) (vs : List V) (Q : VK) (E : XK), Room k (A.deeper (envOfC qual scope s.heap.objs.size f cdv)) → sp vs H Q E →
      ∃ t, PSs (cxOf CX P w K mg base N qual scope f cdv A outer s H E) body t ∧ t { nx := fun _ H' => Q .non H', rt := Q } (start N vs) H) :
    FnOk P w K mg base CX (k + 1) f (PySem.W.fnOf name qual params body scope dV kV doc pm an cdv ct) ps sp := by
  refine ⟨len, fun A outer s H args us vs Q E hr e0 hb r hsp => ?_⟩
  have hl := len _ _ _ _ hsp
  have KX : K.In s.heap := e0.mod.kin.keeps fun b o e => (e0.bs b o e).1
  have lim : s.heap.NoLimit := e0.mod.nolimit.keeps fun b o e => (e0.bs b o e).1
  have hkind : ∀ y ∈ ps.zip us, scope.names.lookup y.1 = some .local ∨ (scope.names.lookup y.1 = some .cell ∧ ((cellsFrom (s.heap.objs.size + 1) scope.names []).lookup y.1).isSome = true) := fun ⟨n, v⟩ hy => by
    rcases S.par n (List.of_mem_zip hy).1 with q | q
    · exact .inl q
    · exact .inr ⟨q, PySem.W.cellsFrom_some _ _ _ (.inl q)⟩
  refine codeAny_call_function hr.depth (KX _ _ lk) rfl S.co S.gen rfl (PySem.W.codeRec_of KX hcd) (hb _ _ _ _ ?_)
  refine wpAny_newFunctionEnv_cells S.kind hkind fun env he s1 x => ?_
  subst he
  refine ⟨lim.keeps x.toInCall.keep, codeAny_func ?_⟩
  obtain ⟨t, ht, hq⟩ := hbody A outer s H vs Q E (hr.deeper _) hsp
  have I : Inv (cxOf CX P w K mg base N qual scope f cdv A outer s H E) [] (start N vs) H s1 := inv_start S hr.hd e0 hl r x
  refine wpAny_mono (ht [] s1 (start N vs) H _ I hq) (fun fl s' hs => ?_) fun e s' hs => hs
  have fin : ∀ {σ' : St} {H' : Hp} {v : V} {u : Value}, Inv (cxOf CX P w K mg base N qual scope f cdv A outer s H E) [] σ' H' s' → RelV v u → Q v H' → CE outer P w H s Q u s' :=
    fun {σ' H' v u} J rv q => ⟨v, H', J.os, J.bare, J.base, J.hok, rv, q⟩
  cases fl with
  | ret u =>
    obtain ⟨v, σ', H', J, rv, q⟩ := hs
    exact fin J rv q
  | next =>
    obtain ⟨σ', H', J, q⟩ := hs
    exact fin (v := V.non) (u := Value.none) J rfl q
  | brk =>
    obtain ⟨_, _, _, q⟩ := hs
    exact False.elim q
  | cont =>
    obtain ⟨_, _, _, q⟩ := hs
    exact False.elim q
end L2
namespace L2
open PySem PySem.Spec PyProof.Rows
section
variable {X : Cx} {x : Str} {p pos : Pos} {e : Expr} {es : List Expr} {t : TA} {id T : String} {r : List V → Hp → VK → Prop}
def tCB (r : List V → Hp → VK → Prop) (t : TA) : TE := fun σ H Q => t σ H fun vs H1 => r vs H1 Q
theorem pe_callB (hc : CallR X (.builtin id) r) (hg : Gl X x) (hm : X.mg x = none) (hv : bootBuiltins x = some (.builtin id)) (ha : PA X (e :: es) t) (hn : x ≠ "__name__" := by decide) (hdb : (x == ("__debug__" : Str)) = false := by decide)
    (he : starEach (e :: es) X.env = (false, eval e X.env) :: starEach es X.env := by rfl) (hpl : (backTo pos (starEach es X.env)).any (·.1) = false := by rfl) : PE X (.Call (.Name x p) (e :: es) [] pos) (tCB r t) := by
  intro pins s σ H Q I h
  refine wpAny_Call_Name_kw (ld_blt I hg hm hv ?_ hn hdb)
  exact PyProof.Rows.callWith_builtin1 (thn (ha pos pins s σ H _ I h) fun us s1 ⟨vs, H1, I1, r1, q1⟩ => hc pins s1 σ H1 vs us Q I1 r1 q1) he hpl
theorem pe_callTy (hc : CallR X (.type T) r) (hg : Gl X x) (hm : X.mg x = none) (hv : bootBuiltins x = some (.type T)) (ha : PA X (e :: es) t) (hn : x ≠ "__name__" := by decide) (hdb : (x == ("__debug__" : Str)) = false := by decide)
    (he : starEach (e :: es) X.env = (false, eval e X.env) :: starEach es X.env := by rfl) (hpl : (backTo pos (starEach es X.env)).any (·.1) = false := by rfl) : PE X (.Call (.Name x p) (e :: es) [] pos) (tCB r t) := by
  intro pins s σ H Q I h
  refine wpAny_Call_Name_kw (ld_blt I hg hm hv ?_ hn hdb)
  exact PyProof.Rows.callWith_type1 (thn (ha pos pins s σ H _ I h) fun us s1 ⟨vs, H1, I1, r1, q1⟩ => hc pins s1 σ H1 vs us Q I1 r1 q1) he hpl
end
end L2
namespace HT
open PySem PyProof.Rows
section
open PySem.SeqAt
open PySem.AutoSeq1 (wpAny_loadPart')
open PySem.MeetsSeq PySem.MeetsSeq2 PySem.MeetsSeq3
end
section
variable {prog : Program} {w : World} {A : Around} {E : Value → Shared → Prop} {s : Shared}
theorem cat_tup {t b : Addr} {vs ws : List Value} {Q : Value → Shared → Prop} (ht : IsTup s.heap t vs.toArray) (hb : IsTup s.heap b ws.toArray) (hv : vs ≠ [])
    (h1 : ws = [] → Q (.ref t) s) (h2 : ws ≠ [] → Q (.ref s.heap.objs.size) { s with heap := s.heap.push { cls := .type "tuple", data := .seq (vs ++ ws).toArray } })
    (hsz : vs.length + ws.length ≤ sizeLine) : wpAny (model prog w) A (binaryOp .Add (.ref t) (.ref b)) Q E s := by
  obtain ⟨⟨cls, dd, data, sl⟩, ho, hc, n, hd⟩ := id ht
  obtain ⟨⟨cls2, dd2, data2, sl2⟩, ho2, hc2, n2, hd2⟩ := id hb
  simp only at hc hd hc2 hd2
  subst hc hd hc2 hd2
  have e : vs.toArray ++ ws.toArray = (vs ++ ws).toArray := by simp
  by_cases hw : ws = []
  · exact concat_meets ⟨_, ho, rfl⟩ ⟨_, ho2, rfl⟩ noFill_tuple_add seq_tuple_add PySem.F.slot_tuple_add PySem.F.entry_tuple_add (PySem.F.args_tuple_add_2 _ _)
      (tuple_addW1 t b vs.toArray ws.toArray n n2 dd dd2 sl sl2 (by simpa using hv) (by simp [hw])) ⟨ho, ho2, h1 hw⟩
  · refine concat_meets ⟨_, ho, rfl⟩ ⟨_, ho2, rfl⟩ noFill_tuple_add seq_tuple_add PySem.F.slot_tuple_add PySem.F.entry_tuple_add (PySem.F.args_tuple_add_2 _ _)
      (tuple_addW2 t b vs.toArray ws.toArray n n2 dd dd2 sl sl2 (by simpa using hv) (by simpa using hw) (by rw [List.size_toArray, List.size_toArray]; exact hsz)) ⟨ho, ho2, ?_⟩
    rw [e]
    exact h2 hw
def sIx (n d : Nat) : Option Int → Nat
  | none => d
  | some v => if v < 0 then (v + (n : Int)).toNat else min v.toNat n
theorem sIx_none (n d : Nat) : sIx n d none = d := rfl
theorem sIx_nat (n d k : Nat) : sIx n d (some (k : Int)) = min k n := by
  show (if (k : Int) < 0 then ((k : Int) + (n : Int)).toNat else min (k : Int).toNat n) = min k n
  rw [if_neg (by omega), Int.toNat_natCast]
theorem sIx_le (n d : Nat) (hd : d ≤ n) (o : Option Int) : sIx n d o ≤ n := by
  cases o with
  | none => exact hd
  | some v =>
    show (if v < 0 then (v + (n : Int)).toNat else min v.toNat n) ≤ n
    by_cases hv : v < 0
    · rw [if_pos hv]; omega
    · rw [if_neg hv]; exact Nat.min_le_right _ _
theorem clip_eq (v : Int) (n d : Nat) : (if v < 0 then max (v + (n : Int)) 0 else min v (n : Int)) = ((sIx n d (some v) : Nat) : Int) := by
  show (if v < 0 then max (v + (n : Int)) 0 else min v (n : Int)) = (((if v < 0 then (v + (n : Int)).toNat else min v.toNat n) : Nat) : Int)
  by_cases hv : v < 0
  · simp only [if_pos hv]; omega
  · simp only [if_neg hv]; omega
theorem adjust_gen (lo hi : Option Int) (n : Nat) : Builtin.Slice.sliceAdjust lo hi 1 (n : Int) = (((sIx n 0 lo : Nat) : Int), ((sIx n n hi : Nat) : Int)) := by
  have h1 : ¬ ((1 : Int) < 0) := by omega
  unfold Builtin.Slice.sliceAdjust
  simp only [h1, if_false]
  refine Prod.ext ?_ ?_
  · cases lo with
    | none => rfl
    | some v => exact clip_eq v n 0
  · cases hi with
    | none => rfl
    | some v => exact clip_eq v n n
theorem places_gen (i j : Nat) : Builtin.Slice.slicePlaces (i : Int) (j : Int) 1 = j - i := by
  unfold Builtin.Slice.slicePlaces
  have h1 : (1 : Int) > 0 := by omega
  simp only [h1, if_true, Int.ediv_one]
  split <;> omega
theorem slicePart_ {v : Value} {o : Option Int} {Q : Option Int → Shared → Prop} (p : IsPart v o) (h : Q o s) : wpAny (model prog w) A (Builtin.Slice.slicePartIndex v) Q E s := by
  cases p with
  | none => exact slicePart_none h
  | int i t => exact slicePart_int h
theorem sliceApplied_gen {sl : Addr} {vl vu : Value} {lo hi : Option Int} {n : Nat} {Q : Int × Int × Nat → Shared → Prop} (hs : s.heap.IsSliceOf sl vl vu .none) (pl : IsPart vl lo) (pu : IsPart vu hi)
    (h : Q (((sIx n 0 lo : Nat) : Int), 1, sIx n n hi - sIx n 0 lo) s) : wpAny (model prog w) A (Builtin.Slice.sliceApplied (.ref sl) (pure (n : Int))) Q E s := by
  obtain ⟨os, hos, hcs, hds⟩ := id hs
  unfold Builtin.Slice.sliceApplied Builtin.Slice.sliceFields
  refine wpAny_bind (wpAny_bind (wpAny_field hos hds (x := vl) rfl (wpAny_bind (wpAny_field hos hds (x := vu) rfl (wpAny_bind (wpAny_field hos hds (x := .none) rfl (wpAny_pure ?_)))))))
  refine wpAny_bind (slicePart_none ?_)
  show wpAny _ _ (if ((1 : Int) == 0) = true then _ else _) _ _ s
  rw [if_neg (by decide)]
  refine wpAny_bind (slicePart_ pl (wpAny_bind (slicePart_ pu (wpAny_bind (wpAny_pure ?_)))))
  show wpAny _ _ (match Builtin.Slice.sliceAdjust lo hi 1 (n : Int) with | (lo, hi) => pure (lo, (1 : Int), Builtin.Slice.slicePlaces lo hi 1)) _ _ s
  rw [adjust_gen lo hi n]
  show wpAny _ _ (pure (((sIx n 0 lo : Nat) : Int), (1 : Int), Builtin.Slice.slicePlaces ((sIx n 0 lo : Nat) : Int) ((sIx n n hi : Nat) : Int) 1)) _ _ s
  rw [places_gen]
  exact wpAny_pure h
theorem pick_gen (xs : Array Value) (i k : Nat) : ((List.range k).filterMap fun (m : Nat) => xs[((i : Int) + (m : Int) * 1).toNat]?).toArray = ((xs.toList.drop i).take k).toArray := by
  have e : (fun (m : Nat) => xs[((i : Int) + (m : Int) * 1).toNat]?) = fun m => xs[i + m]? := by
    funext m
    have : ((i : Int) + (m : Int) * 1).toNat = i + m := by omega
    rw [this]
  rw [e]
  have := pick_run xs i k
  rw [List.filterMap_map] at this
  have e2 : ((fun x => xs[x]?) ∘ fun x => i + x) = fun m => xs[i + m]? := rfl
  rw [e2] at this
  rw [this]
theorem getItem_tuple_cut {t sl : Addr} {items : Array Value} {vl vu : Value} {lo hi : Option Int} {Q : Value → Shared → Prop} (ht : IsTup s.heap t items) (hs : s.heap.IsSliceOf sl vl vu .none) (pl : IsPart vl lo) (pu : IsPart vu hi)
    (hw : ¬ (sIx items.size 0 lo = 0 ∧ sIx items.size items.size hi = items.size))
    (h : Q (.ref s.heap.objs.size) { s with heap := s.heap.push { cls := .type "tuple", data := .seq ((items.toList.drop (sIx items.size 0 lo)).take (sIx items.size items.size hi - sIx items.size 0 lo)).toArray } })
    (hsz : items.size ≤ sizeLine) : wpAny (model prog w) A (getItem (.ref t) (.ref sl)) Q E s := by
  have htake : sizeOk (.seq ((items.toList.drop (sIx items.size 0 lo)).take (sIx items.size items.size hi - sIx items.size 0 lo)).toArray) := by
    show ((items.toList.drop (sIx items.size 0 lo)).take (sIx items.size items.size hi - sIx items.size 0 lo)).toArray.size ≤ sizeLine
    rw [List.size_toArray, List.length_take, List.length_drop, Array.length_toList]
    omega
  have hj : sIx items.size items.size hi ≤ items.size := sIx_le _ _ (Nat.le_refl _) hi
  obtain ⟨os, hos, hcs, hds⟩ := id hs
  have hTs : s.TypeIs (.ref sl) "slice" := ⟨os, hos, hcs⟩
  unfold getItem
  try with_reducible refine wpAny_holding ?_
  first | refine wpAny_bind (wpAny_pure ?_) | skip
  refine wpAny_bind (wpAny_sequenceKey ht.typeIs (by decide) ?_)
  refine wpAny_bind (wpAny_callSpecial?_slot (name := Str.ofString "__getitem__") ht.typeIs PyProof.Rows.slot_tuple_getitem
    (wpAny_call_entry PyProof.Rows.slot_tuple_getitem ht.typeIs entry_tuple_getitem ?_ (args_tuple_getitem _ _)))
  show wpAny _ _ (Builtin.Tuple.tupleItemsOf (.ref t) >>= _) _ _ s
  refine wpAny_bind (tupleItemsOf_ ht ?_)
  refine wpAny_bind (wpAny_typeOf hTs ?_)
  rw [if_pos (by decide)]
  refine wpAny_bind (sliceApplied_gen hs pl pu ?_)
  have hno : ¬ ((((sIx items.size 0 lo : Nat) : Int) == 0 && (1 : Int) == 1 && (sIx items.size items.size hi - sIx items.size 0 lo) == items.size) = true) := by
    intro q
    rw [Bool.and_eq_true, Bool.and_eq_true] at q
    have q1 : ((sIx items.size 0 lo : Nat) : Int) = 0 := eq_of_beq q.1.1
    have q2 : sIx items.size items.size hi - sIx items.size 0 lo = items.size := eq_of_beq q.2
    exact hw ⟨by omega, by omega⟩
  show wpAny _ _ (if (((sIx items.size 0 lo : Nat) : Int) == 0 && (1 : Int) == 1 && (sIx items.size items.size hi - sIx items.size 0 lo) == items.size) = true then _ else _) _ _ s
  rw [if_neg hno, pick_gen]
  first
    | exact wpAny_bind (m := Builtin.Tuple.tupleExact _) (wpAny_newObj_type (wpAny_pure ⟨_, rfl, wpAny_pure h⟩) htake)
    | exact wpAny_bind (m := Builtin.Tuple.tupleExact _) (wpAny_newObj_type (wpAny_bind (wpAny_pure (wpAny_pure ⟨_, rfl, wpAny_pure h⟩))) htake)
    | exact wpAny_bind (wpAny_bind (m := Builtin.Tuple.tupleExact _) (wpAny_newObj_type (wpAny_pure (wpAny_pure ⟨_, rfl, wpAny_pure h⟩)) htake))
    | exact wpAny_bind (wpAny_bind (m := Builtin.Tuple.tupleExact _) (wpAny_newObj_type (wpAny_pure ⟨_, rfl, wpAny_pure h⟩) htake))
end
end HT
namespace L2
open PySem PySem.Spec PyProof.Rows
abbrev TO := St → Hp → (Option Int → Hp → Prop) → Prop
def PO (X : Cx) (e : Option Expr) (t : TO) : Prop :=
  ∀ (pins : List (Addr × Obj)) (s : Shared) (σ : St) (H : Hp) (Q : Option Int → Hp → Prop), Inv X pins σ H s → t σ H Q →
    wpAny (model X.prog X.w) X.A (evalPart e X.env) (fun u s' => ∃ o H', Inv X pins σ H' s' ∧ IsPart u o ∧ Q o H') X.xe s
def tNoPart : TO := fun _ H Q => Q none H
def tPart (t : TE) : TO := fun σ H Q => t σ H fun x H1 => ∃ i, x = .int i ∧ Q (some i) H1
section
variable {X : Cx} {e : Expr} {te : TE} {lo hi : Option Expr} {tl th : TO} {pos p2 : Pos}
theorem po_none : PO X none tNoPart := by
  intro pins s σ H Q I h
  rw [evalPart_none]
  exact wpAny_pure ⟨none, H, I, .none, h⟩
theorem po_some (h : PE X e te) : PO X (some e) (tPart te) := by
  intro pins s σ H Q I hw
  rw [evalPart_some]
  refine thn (h pins s σ H _ I hw) fun u s1 ⟨x, H1, I1, r1, q1⟩ => ?_
  obtain ⟨i, rfl, q⟩ := q1
  obtain ⟨t, rfl⟩ := r1
  exact ⟨some i, H1, I1, .int i t, q⟩
def SlR (X : Cx) (r : V → Option Int → Option Int → Hp → VK → Prop) : Prop :=
  ∀ (pins : List (Addr × Obj)) (s : Shared) (σ : St) (H : Hp) (x : V) (v vl vu : Value) (lo hi : Option Int) (sl : Addr) (Q : VK), Inv X pins σ H s → RelV x v → s.heap.IsSliceOf sl vl vu .none → IsPart vl lo → IsPart vu hi → r x lo hi H Q →
    ∃ T id, typeLookup (.type T) "__getitem__" = pure (some (.builtin id)) ∧ s.TypeIs v T ∧ wpAny (model X.prog X.w) X.A (getItem v (.ref sl)) (EP X pins σ Q) X.xe s
theorem SlR.or {r r' : V → Option Int → Option Int → Hp → VK → Prop} (h : SlR X r) (h' : SlR X r') : SlR X (fun x lo hi H Q => r x lo hi H Q ∨ r' x lo hi H Q) := by
  intro pins s σ H x v vl vu lo hi sl Q I rx hs pl pu q
  rcases q with q | q
  · exact h pins s σ H x v vl vu lo hi sl Q I rx hs pl pu q
  · exact h' pins s σ H x v vl vu lo hi sl Q I rx hs pl pu q
def tSl (r : V → Option Int → Option Int → Hp → VK → Prop) (te : TE) (tl th : TO) : TE := fun σ H Q => te σ H fun x H1 => tl σ H1 fun l H2 => th σ H2 fun u H3 => r x l u H3 Q
theorem pe_slice {r : V → Option Int → Option Int → Hp → VK → Prop} (hr : SlR X r) (he : PE X e te) (hl : PO X lo tl) (hu : PO X hi th) : PE X (.Subscript e (.Slice lo hi none p2) pos) (tSl r te tl th) := by
  intro pins s σ H Q I h
  refine Subscript_ (thn (he pins s σ H _ I h) fun v s1 ⟨x, H1, I1, r1, q1⟩ => ?_)
  refine wpAny_Slice (thn (hl pins s1 σ H1 _ I1 q1) fun vl s2 ⟨l, H2, I2, pl, q2⟩ => thn (hu pins s2 σ H2 _ I2 q2) fun vu s3 ⟨u, H3, I3, pu, q3⟩ => ?_)
  rw [evalPart_none]
  refine wpAny_pure ?_
  have I4 : Inv X pins σ H3 { s3 with heap := s3.heap.push { cls := .type "slice", data := .fields #[vl, vu, .none] } } := I3.kept (t' := s3.toks) fun b ob q => Heap.get?_push_of_some _ q
  obtain ⟨T, id, hT, ht, hg⟩ := hr pins { s3 with heap := s3.heap.push { cls := .type "slice", data := .fields #[vl, vu, .none] } } σ H3 x v vl vu l u s3.heap.objs.size Q I4 r1 (Heap.IsSliceOf.new ..) pl pu q3
  show wpAny (model X.prog X.w) X.A (subscriptTail e (.Slice lo hi none p2) v (.ref s3.heap.objs.size)) (EP X pins σ Q) X.xe { s3 with heap := s3.heap.push { cls := .type "slice", data := .fields #[vl, vu, .none] } }
  exact tail_any (ops := [.ref s3.heap.objs.size, v]) ht hT hg (by with_unfolding_all rfl)
def cutV (xs : List V) (lo hi : Option Int) : List V := (xs.drop (HT.sIx xs.length 0 lo)).take (HT.sIx xs.length xs.length hi - HT.sIx xs.length 0 lo)
theorem cutV_length (xs : List V) (lo hi : Option Int) : (cutV xs lo hi).length ≤ xs.length := by
  unfold cutV
  rw [List.length_take, List.length_drop]
  omega
def rSlT (K : PySem.W.Frag) : V → Option Int → Option Int → Hp → VK → Prop := fun x lo hi H Q => ∃ a xs, x = .ref a ∧ SqT K H a xs ∧
  ¬ (HT.sIx xs.length 0 lo = 0 ∧ HT.sIx xs.length xs.length hi = xs.length) ∧ ∀ p, H p = none → Q (.ref p) (upd H p (.tup (cutV xs lo hi)))
theorem sl_tup : SlR X (rSlT X.K) := by
  intro pins s σ H x v vl vu lo hi sl Q I rx hs pl pu h
  obtain ⟨a, xs, rfl, hx, hw, q⟩ := h
  cases rx
  obtain ⟨its, r, ht, hz⟩ := I.tuple hx
  have hlen : its.toArray.size = xs.length := by rw [List.size_toArray]; exact r.length.symm
  refine ⟨"tuple", _, PyProof.Rows.slot_tuple_getitem.lookup, ht.typeIs, ?_⟩
  refine HT.getItem_tuple_cut ht hs pl pu (by rw [hlen]; exact hw) ?_ (by rw [hlen]; exact hz)
  rw [hlen]
  refine ⟨.ref s.heap.objs.size, _, I.laid (t' := s.toks) (o := .tup (cutV xs lo hi)) (fun b ob q => Heap.get?_push_of_some _ q) (Nat.le_refl _) ?_, rfl, q _ (I.hok.fresh (Nat.le_refl _))⟩
  exact ⟨Nat.le_trans (cutV_length xs lo hi) hz, _, (r.drop (HT.sIx xs.length 0 lo)).take (HT.sIx xs.length xs.length hi - HT.sIx xs.length 0 lo), IsTup.new _ _⟩
def rCatT (K : PySem.W.Frag) : R2 := fun x y H Q => ∃ a b xs ys, x = .ref a ∧ y = .ref b ∧ SqT K H a xs ∧ SqT K H b ys ∧ xs ≠ [] ∧ xs.length + ys.length ≤ sizeLine ∧
  (ys = [] → Q (.ref a) H) ∧ (ys ≠ [] → ∀ p, H p = none → Q (.ref p) (upd H p (.tup (xs ++ ys))))
theorem Vals.nil_iff {xs : List V} {us : List Value} (r : Vals xs us) : us = [] ↔ xs = [] := by
  cases r with
  | nil => simp
  | cons _ _ => simp
theorem op_catT : OpR X (binaryOp .Add) (rCatT X.K) := by
  intro pins s σ H x y v u Q I rx ry h
  obtain ⟨a, b, xs, ys, rfl, rfl, ha, hb, hx, hz, q1, q2⟩ := h
  cases rx
  cases ry
  obtain ⟨its, r1, p1, _⟩ := I.tuple ha
  obtain ⟨its2, r2, p2, _⟩ := I.tuple hb
  refine HT.cat_tup p1 p2 (fun z => hx (r1.nil_iff.mp z)) (fun z => ⟨.ref a, H, I, rfl, q1 (r2.nil_iff.mp z)⟩) (fun z => ?_) (by rw [← r1.length, ← r2.length]; exact hz)
  refine ⟨.ref s.heap.objs.size, _, I.laid (t' := s.toks) (o := .tup (xs ++ ys)) (fun b ob q => Heap.get?_push_of_some _ q) (Nat.le_refl _) ?_, rfl, q2 (fun w => z (r2.nil_iff.mpr w)) _ (I.hok.fresh (Nat.le_refl _))⟩
  exact ⟨by rw [List.length_append]; exact hz, _, r1.append r2, IsTup.new _ _⟩
end
end L2
namespace L2
open PySem PySem.Spec PyProof.Rows
def ixN (n : Nat) (i : Int) : Option Nat := if 0 ≤ i then (if i < n then some i.toNat else none) else if -(n : Int) ≤ i then some (i + n).toNat else none
def atI {α : Type} (xs : List α) (i : Int) : Option α := (ixN xs.length i).bind fun j => xs[j]?
theorem ixN_seq {n : Nat} {i : Int} {j : Nat} (h : ixN n i = some j) : seqIndex? i n = some j ∧ j < n ∧ -(n : Int) ≤ i ∧ i < n := by
  unfold ixN at h
  by_cases h0 : 0 ≤ i
  · rw [if_pos h0] at h
    by_cases h1 : i < n
    · rw [if_pos h1] at h
      have e : i.toNat = j := Option.some.inj h
      exact ⟨by rw [seqIndex_of h0 h1, e], by omega, by omega, h1⟩
    · rw [if_neg h1] at h; cases h
  · rw [if_neg h0] at h
    by_cases h1 : -(n : Int) ≤ i
    · rw [if_pos h1] at h
      have e : (i + n).toNat = j := Option.some.inj h
      exact ⟨by rw [seqIndex_neg (by omega) h1, e], by omega, h1, by omega⟩
    · rw [if_neg h1] at h; cases h
theorem atI_get {α : Type} {xs : List α} {i : Int} {v : α} (h : atI xs i = some v) : ∃ j, seqIndex? i xs.length = some j ∧ xs[j]? = some v ∧ j < xs.length ∧ -(xs.length : Int) ≤ i ∧ i < xs.length := by
  unfold atI at h
  cases e : ixN xs.length i with
  | none => rw [e] at h; cases h
  | some j =>
    rw [e] at h
    obtain ⟨h1, h2, h3, h4⟩ := ixN_seq e
    exact ⟨j, h1, h, h2, h3, h4⟩
theorem atI_nat {α : Type} {xs : List α} {j : Nat} {v : α} (h : xs[j]? = some v) : atI xs (j : Int) = some v := by
  have hj : j < xs.length := (List.getElem?_eq_some_iff.mp h).1
  have e : ixN xs.length (j : Int) = some j := by
    unfold ixN
    rw [if_pos (by omega), if_pos (by omega)]; simp
  unfold atI; rw [e]; exact h
def PlainIx (b : Expr) : Prop := ∀ o i, subscripted b false o i = operate [o, i] (getItem o i)
def IxR (X : Cx) (r : R2) : Prop :=
  ∀ (value slice : Expr) (pins : List (Addr × Obj)) (s : Shared) (σ : St) (H : Hp) (x y : V) (v u : Value) (Q : VK), Inv X pins σ H s → RelV x v → RelV y u → r x y H Q →
    subscripted slice false v u = operate [v, u] (getItem v u) → wpAny (model X.prog X.w) X.A (subscriptTail value slice v u) (EP X pins σ Q) X.xe s
def MtR (X : Cx) (id : String) (r : V → List V → Hp → VK → Prop) : Prop :=
  ∀ (pins : List (Addr × Obj)) (s : Shared) (σ : St) (H : Hp) (x : V) (xs : List V) (v : Value) (us : List Value) (Q : VK), Inv X pins σ H s → RelV x v → Vals xs us → r x xs H Q →
    wpAny (model X.prog X.w) X.A (call (.builtin id) (v :: us)) (EP X pins σ Q) X.xe s
section
variable {X : Cx} {a b : Expr} {ta tb : TE} {pos : Pos}
theorem IxR.or {r r' : R2} (h : IxR X r) (h' : IxR X r') : IxR X (fun x y H Q => r x y H Q ∨ r' x y H Q) := by
  intro value slice pins s σ H x y v u Q I rx ry q hs
  rcases q with q | q
  · exact h value slice pins s σ H x y v u Q I rx ry q hs
  · exact h' value slice pins s σ H x y v u Q I rx ry q hs
theorem MtR.or {id : String} {r r' : V → List V → Hp → VK → Prop} (h : MtR X id r) (h' : MtR X id r') : MtR X id (fun x xs H Q => r x xs H Q ∨ r' x xs H Q) := by
  intro pins s σ H x xs v us Q I rx rs q
  rcases q with q | q
  · exact h pins s σ H x xs v us Q I rx rs q
  · exact h' pins s σ H x xs v us Q I rx rs q
theorem pe_ix {r : R2} (hr : IxR X r) (ha : PE X a ta) (hb : PE X b tb) (hs : PlainIx b) : PE X (.Subscript a b pos) (tOp r ta tb) := by
  intro pins s σ H Q I h
  exact Subscript_ (binT ha hb I h fun v u s2 x y H2 I2 rx ry q => hr a b pins s2 σ H2 x y v u Q I2 rx ry q (hs _ _))
def rIxL (K : PySem.W.Frag) : R2 := fun x y H Q => ∃ p xs i v, x = .ref p ∧ y = .int i ∧ SqL K H p xs ∧ atI xs i = some v ∧ Q v H
def rIxT (K : PySem.W.Frag) : R2 := fun x y H Q => ∃ p xs i v, x = .ref p ∧ y = .int i ∧ SqT K H p xs ∧ atI xs i = some v ∧ Q v H
def rIxS : R2 := fun x y H Q => ∃ z i c, x = .str z ∧ y = .int i ∧ z.length ≤ sizeLine ∧ atI z.cps.toList i = some c ∧ Q (.str ⟨#[c]⟩) H
theorem ix_list : IxR X (rIxL X.K) := by
  intro value slice pins s σ H x y v u Q I rx ry h hs
  obtain ⟨p, xs, i, z, rfl, rfl, hq, he, q⟩ := h
  cases rx
  obtain ⟨t, rfl⟩ := ry
  obtain ⟨its, r, pl, hz⟩ := I.list hq
  obtain ⟨j, h1, h2, h3, h4, h5⟩ := atI_get he
  obtain ⟨w, ew, rw'⟩ := r.get h2
  have hl := r.length
  have hn := line63
  have fin : EP X pins σ Q w s := ⟨z, H, I, rw', q⟩
  by_cases h0 : 0 ≤ i
  · have hj : i.toNat = j := by
      rw [seqIndex_of h0 h5] at h1
      exact Option.some.inj h1
    exact item_listR pl.isList h0 (by omega) (by rw [hj]; simpa using ew) fin hs
  · have hj : (i + (its.toArray.size : Int)).toNat = j := by
      rw [seqIndex_neg (by omega) h4] at h1
      rw [List.size_toArray, ← hl]
      exact Option.some.inj h1
    exact subscriptTail_builtinR (x := w) pl.isList.typeIs slot_list_getitem.lookup
      (wpAny_getItem_list_neg (Q := fun r s' => r = w ∧ EP X pins σ Q r s') pl.isList (by omega) (by rw [List.size_toArray] <;> omega) (by omega) (by rw [hj]; simpa using ew) ⟨rfl, fin⟩) hs
theorem ix_tup : IxR X (rIxT X.K) := by
  intro value slice pins s σ H x y v u Q I rx ry h hs
  obtain ⟨p, xs, i, z, rfl, rfl, hq, he, q⟩ := h
  cases rx
  obtain ⟨t, rfl⟩ := ry
  obtain ⟨its, r, pl, hz⟩ := I.tuple hq
  obtain ⟨j, h1, h2, h3, h4, h5⟩ := atI_get he
  obtain ⟨w, ew, rw'⟩ := r.get h2
  have hl := r.length
  have hn := line63
  have fin : EP X pins σ Q w s := ⟨z, H, I, rw', q⟩
  exact subscriptTail_builtinR (x := w) pl.typeIs slot_tuple_getitem.lookup
    (getItem_tuple (j := j) (Q := fun r s' => r = w ∧ EP X pins σ Q r s') pl (by omega) (by omega) (by rw [List.size_toArray, ← hl]; exact h1) (by simpa using ew) ⟨rfl, fin⟩) hs
theorem ix_str : IxR X rIxS := by
  intro value slice pins s σ H x y v u Q I rx ry h hs
  obtain ⟨z, i, c, rfl, rfl, hz, he, q⟩ := h
  obtain ⟨t, rfl⟩ := rx
  obtain ⟨t', rfl⟩ := ry
  obtain ⟨j, h1, h2, h3, h4, h5⟩ := atI_get he
  have hl : z.cps.toList.length = z.length := by simp [Str.length]
  rw [hl] at h1 h4 h5
  have hn := line63
  exact tail_any (typeIs_str s z t) slot_str_getitem.lookup (getItem_str (c := c) (by
    have e1 : decide (i < -(2 ^ 63 : Int)) = false := decide_eq_false (by omega)
    have e2 : decide (i ≥ 2 ^ 63) = false := decide_eq_false (by omega)
    rw [e1, e2, Bool.or_false]) (by rw [h1]; simpa using h2) ⟨.str ⟨#[c]⟩, H, I.tok _, ⟨_, rfl⟩, q⟩) hs
def rIx (K : PySem.W.Frag) : R2 := fun x y H Q => rIxL K x y H Q ∨ rIxT K x y H Q ∨ rIxS x y H Q
theorem ix_seq : IxR X (rIx X.K) := ix_list.or (ix_tup.or ix_str)
theorem mapSeq_set (its : List Value) (n j : Nat) (u : Value) : Obj.mapSeq (·.setIfInBounds j u) { cls := .type "list", data := .seq its.toArray n } = { cls := .type "list", data := .seq (its.set j u).toArray n } := by
  simp [Obj.mapSeq]
theorem Inv.lst {pins : List (Addr × Obj)} {σ : St} {H : Hp} {s : Shared} {p : Addr} {xs : List V} (I : Inv X pins σ H s) (h : H p = some (.lst xs)) :
    ∃ (its : List Value) (n : Nat), Vals xs its ∧ s.heap.get? p = some { cls := .type "list", data := .seq its.toArray n } ∧ xs.length ≤ sizeLine := by
  obtain ⟨z, its, n, r, e⟩ := I.hok p _ h
  exact ⟨its, n, r, e, z⟩
theorem Inv.lstUpd {pins : List (Addr × Obj)} {σ : St} {H : Hp} {s : Shared} {p : Addr} {xs ys : List V} {its its' : List Value} {n n' : Nat} {f : Obj → Obj} (I : Inv X pins σ H s) (h : H p = some (.lst xs))
    (ho : s.heap.get? p = some { cls := .type "list", data := .seq its.toArray n }) (hf : f { cls := .type "list", data := .seq its.toArray n } = { cls := .type "list", data := .seq its'.toArray n' }) (r : Vals ys its') (hz : ys.length ≤ sizeLine) (t : Nat) :
    Inv X pins σ (upd H p (.lst ys)) { s with heap := s.heap.update p f, toks := t } := by
  have e : (s.heap.update p f).get? p = some { cls := .type "list", data := .seq its'.toArray n' } := by
    rw [Heap.get?_update_self f ho (by rw [hf] <;> rfl), hf]
  refine I.write (x := p) (e := p) (by rw [h]; trivial) (.inl rfl) (fun b u hb q => (Heap.get?_update_other _ _ (Ne.symm hb)).trans q) ⟨_, e⟩ ?_
  exact ⟨hz, its', n', r, e⟩
def rSetL : V → V → V → Hp → (Hp → Prop) → Prop := fun o i v H Q => ∃ p xs k j, o = .ref p ∧ i = .int k ∧ H p = some (.lst xs) ∧ ixN xs.length k = some j ∧ Q (upd H p (.lst (xs.set j v)))
theorem set_list : PSet X rSetL := by
  intro pins s σ H o i v ov iv u Q I ro ri rv h
  obtain ⟨p, xs, k, j, rfl, rfl, hp, hj, q⟩ := h
  cases ro
  obtain ⟨t, rfl⟩ := ri
  obtain ⟨its, n, r, ho, hz⟩ := I.lst hp
  obtain ⟨h1, h2, h3, h4⟩ := ixN_seq hj
  have hl := r.length
  have hn := line63
  have I' : Inv X pins σ (upd H p (.lst (xs.set j v))) { s with heap := s.heap.update p (Obj.mapSeq (·.setIfInBounds j u)) } :=
    I.lstUpd hp ho (mapSeq_set its n j u) (r.set rv j) (by rw [List.length_set]; exact hz) s.toks
  by_cases h0 : 0 ≤ k
  · have hk : k.toNat = j := by
      rw [seqIndex_of h0 h4] at h1
      exact Option.some.inj h1
    exact PySem.W.ki_setAt ho h0 (by omega) (by rw [List.size_toArray, ← hl]; exact h4) (by rw [hk]; exact ⟨_, I', q⟩)
  · have hk : (k + (its.toArray.size : Int)).toNat = j := by
      rw [seqIndex_neg (by omega) h3] at h1
      rw [List.size_toArray, ← hl]
      exact Option.some.inj h1
    exact PySem.W.ki_setBack ho (by omega) (by rw [List.size_toArray, ← hl]; exact h3) (by omega) (by rw [hk]; exact ⟨_, I', q⟩)
theorem slice_bounds (lo hi : Option Int) (n : Nat) : (sliceBounds lo hi none n).1 = ((HT.sIx n 0 lo : Nat) : Int) ∧ (sliceBounds lo hi none n).2.1 = ((HT.sIx n n hi : Nat) : Int) ∧ (sliceBounds lo hi none n).2.2 = 1 := by
  refine ⟨?_, ?_, rfl⟩
  · cases lo with
    | none => simp [sliceBounds, HT.sIx]
    | some i =>
      simp only [sliceBounds, HT.sIx, Option.getD_none, show (1 : Int) > 0 by decide, if_true]
      by_cases h : i < 0
      · simp only [h, if_true] <;> omega
      · simp only [h, if_false] <;> omega
  · cases hi with
    | none => simp [sliceBounds, HT.sIx]
    | some i =>
      simp only [sliceBounds, HT.sIx, Option.getD_none, show (1 : Int) > 0 by decide, if_true]
      by_cases h : i < 0
      · simp only [h, if_true] <;> omega
      · simp only [h, if_false] <;> omega
theorem slicePick_cut (its : List Value) (lo hi : Option Int) : slicePick its.toArray lo hi none = ((its.drop (HT.sIx its.length 0 lo)).take (HT.sIx its.length its.length hi - HT.sIx its.length 0 lo)).toArray := by
  obtain ⟨h1, h2, h3⟩ := slice_bounds lo hi its.toArray.size
  unfold slicePick
  rw [h1, h2, h3]
  simp only [sliceRange_one, pick_run, List.size_toArray] <;> rfl
def rSlL (K : PySem.W.Frag) : V → Option Int → Option Int → Hp → VK → Prop := fun x lo hi H Q => ∃ a xs, x = .ref a ∧ SqL K H a xs ∧ ∀ p, H p = none → Q (.ref p) (upd H p (.lst (cutV xs lo hi)))
theorem sl_list : SlR X (rSlL X.K) := by
  intro pins s σ H x v vl vu lo hi sl Q I rx hs pl pu h
  obtain ⟨a, xs, rfl, hx, q⟩ := h
  cases rx
  obtain ⟨its, r, ht, hz⟩ := I.list hx
  have hlen := r.length
  refine ⟨"list", _, slot_list_getitem.lookup, ht.isList.typeIs, ?_⟩
  refine wpAny_getItem_list_slice ht.isList hs pl pu .none (by simp) ?_ (by rw [List.size_toArray] <;> omega)
  rw [slicePick_cut, ← hlen]
  refine ⟨.ref s.heap.objs.size, _, I.laid (t' := s.toks) (o := .lst (cutV xs lo hi)) (fun b ob q => Heap.get?_push_of_some _ q) (Nat.le_refl _) ?_, rfl, q _ (I.hok.fresh (Nat.le_refl _))⟩
  exact ⟨Nat.le_trans (cutV_length xs lo hi) hz, _, 0, (r.drop (HT.sIx xs.length 0 lo)).take (HT.sIx xs.length xs.length hi - HT.sIx xs.length 0 lo), Heap.get?_push_size _ rfl⟩
def flatV : V → Bool
  | .non => true
  | .bl _ => true
  | .int _ => true
  | .str _ => true
  | _ => false
def eqV : V → V → Bool
  | .non, .non => true
  | .bl a, .bl b => a == b
  | .bl a, .int b => (if a then 1 else 0) == b
  | .int a, .bl b => a == (if b then 1 else 0)
  | .int a, .int b => a == b
  | .str a, .str b => a == b
  | _, _ => false
theorem eqAt_V {A : Around} {s : Shared} {y x : V} {u v : Value} (ry : RelV y u) (rx : RelV x v) (fy : flatV y = true) (fx : flatV x = true) : SeqAt.EqAt A s u v (eqV y x) := by
  cases y with
  | non =>
    cases ry
    cases x with
    | non => cases rx; exact SeqAt.EqAt.same _
    | bl b => cases rx; exact SeqAt.EqAt.none_bool b
    | int b => obtain ⟨t, rfl⟩ := rx; exact SeqAt.EqAt.none_int b t
    | str b => obtain ⟨t, rfl⟩ := rx; exact SeqAt.EqAt.none_str b t
    | _ => exact absurd (show false = true from fx) Bool.false_ne_true
  | bl a =>
    cases ry
    cases x with
    | non => cases rx; exact SeqAt.EqAt.bool_none a
    | bl b => cases rx; exact SeqAt.EqAt.bool_bool a b
    | int b => obtain ⟨t, rfl⟩ := rx; exact SeqAt.EqAt.bool_int a b t
    | str b => obtain ⟨t, rfl⟩ := rx; exact SeqAt.EqAt.bool_str a b t
    | _ => exact absurd (show false = true from fx) Bool.false_ne_true
  | int a =>
    obtain ⟨t', rfl⟩ := ry
    cases x with
    | non => cases rx; exact SeqAt.EqAt.int_none a t'
    | bl b => cases rx; exact SeqAt.EqAt.int_bool a t' b
    | int b => obtain ⟨t, rfl⟩ := rx; exact SeqAt.EqAt.int_int a t' b t
    | str b => obtain ⟨t, rfl⟩ := rx; exact SeqAt.EqAt.int_str a t' b t
    | _ => exact absurd (show false = true from fx) Bool.false_ne_true
  | str a =>
    obtain ⟨t', rfl⟩ := ry
    cases x with
    | non => cases rx; exact SeqAt.EqAt.str_none a t'
    | bl b => cases rx; exact SeqAt.EqAt.str_bool a t' b
    | int b => obtain ⟨t, rfl⟩ := rx; exact SeqAt.EqAt.str_int a t' b t
    | str b => obtain ⟨t, rfl⟩ := rx; exact SeqAt.EqAt.str_str a t' b t
    | _ => exact absurd (show false = true from fx) Bool.false_ne_true
  | _ => exact absurd (show false = true from fy) Bool.false_ne_true
def eqU (x : V) (u : Value) : Bool := match u with
  | .none => eqV .non x
  | .bool b => eqV (.bl b) x
  | .int i _ => eqV (.int i) x
  | .str z _ => eqV (.str z) x
  | _ => false
theorem eqU_of {x y : V} {u : Value} (r : RelV y u) (f : flatV y = true) : eqU x u = eqV y x := by
  cases y with
  | non => cases r; rfl
  | bl b => cases r; rfl
  | int i => obtain ⟨t, rfl⟩ := r; rfl
  | str z => obtain ⟨t, rfl⟩ := r; rfl
  | _ => exact absurd (show false = true from f) Bool.false_ne_true
theorem any_eqU {x : V} : ∀ {xs : List V} {us : List Value}, Vals xs us → xs.all flatV = true → us.any (eqU x) = xs.any fun y => eqV y x
  | _, _, .nil, _ => rfl
  | y :: xs, u :: us, .cons r t, f => by
    rw [List.all_cons, Bool.and_eq_true] at f
    rw [List.any_cons, List.any_cons, eqU_of r f.1, any_eqU t f.2]
theorem mem_eqAt {A : Around} {s : Shared} {x : V} {v : Value} (rx : RelV x v) (fx : flatV x = true) : ∀ {xs : List V} {us : List Value}, Vals xs us → xs.all flatV = true → ∀ u ∈ us, SeqAt.EqAt A s u v (eqU x u)
  | _, _, .nil, _ => fun u hu => by cases hu
  | y :: xs, u :: us, .cons r t, f => fun u' hu => by
    rw [List.all_cons, Bool.and_eq_true] at f
    rcases List.mem_cons.mp hu with rfl | hu
    · rw [eqU_of r f.1]; exact eqAt_V r rx f.1 fx
    · exact mem_eqAt rx fx t f.2 u' hu
def inV (x : V) (xs : List V) : Bool := xs.any fun y => eqV y x
def rIn (K : PySem.W.Frag) (neg : Bool) : R2 := fun x y H Q => ∃ p xs, y = .ref p ∧ (SqL K H p xs ∨ SqT K H p xs) ∧ flatV x = true ∧ xs.all flatV = true ∧ Q (.bl (if neg then !inV x xs else inV x xs)) H
theorem op_in_seq : OpR X (compareOp .In) (rIn X.K false) := by
  intro pins s σ H x y v u Q I rx ry h
  obtain ⟨p, xs, rfl, hq, fx, fs, q⟩ := h
  cases ry
  rcases hq with hq | hq
  · obtain ⟨its, r, pl, hz⟩ := I.list hq
    refine SeqAt.in_listAt (eqU x) pl.isList (fun w hw => mem_eqAt rx fx r fs w (by simpa using hw)) ⟨.bl _, H, I, rfl, ?_⟩
    rw [show its.toArray.any (eqU x) = its.any (eqU x) by simp, any_eqU r fs]
    exact q
  · obtain ⟨its, r, pl, hz⟩ := I.tuple hq
    refine SeqAt.in_tupleAt (eqU x) pl (fun w hw => mem_eqAt rx fx r fs w (by simpa using hw)) ⟨.bl _, H, I, rfl, ?_⟩
    rw [show its.toArray.any (eqU x) = its.any (eqU x) by simp, any_eqU r fs]
    exact q
theorem op_notIn_seq : OpR X (compareOp .NotIn) (rIn X.K true) := by
  intro pins s σ H x y v u Q I rx ry h
  obtain ⟨p, xs, rfl, hq, fx, fs, q⟩ := h
  cases ry
  rcases hq with hq | hq
  · obtain ⟨its, r, pl, hz⟩ := I.list hq
    refine SeqAt.notIn_listAt (eqU x) pl.isList (fun w hw => mem_eqAt rx fx r fs w (by simpa using hw)) ⟨.bl _, H, I, rfl, ?_⟩
    rw [show its.toArray.any (eqU x) = its.any (eqU x) by simp, any_eqU r fs]
    exact q
  · obtain ⟨its, r, pl, hz⟩ := I.tuple hq
    refine SeqAt.notIn_tupleAt (eqU x) pl (fun w hw => mem_eqAt rx fx r fs w (by simpa using hw)) ⟨.bl _, H, I, rfl, ?_⟩
    rw [show its.toArray.any (eqU x) = its.any (eqU x) by simp, any_eqU r fs]
    exact q
theorem call_len_seq : CallR X (.builtin "len") (fun xs H Q => ∃ p ys, xs = [.ref p] ∧ (SqL X.K H p ys ∨ SqT X.K H p ys) ∧ Q (.int ys.length) H) := by
  intro pins s σ H xs us Q I r h
  obtain ⟨p, ys, rfl, hq, q⟩ := h
  obtain ⟨u, rfl, rx⟩ := vals1 r
  cases rx
  have hn := line63
  rcases hq with hq | hq
  · obtain ⟨its, r', pl, hz⟩ := I.list hq
    have hlen := r'.length
    exact Calls.call_len_list pl.isList (by simp only [List.size_toArray] <;> omega) ⟨.int ys.length, H, I.tok _, ⟨s.toks + 1, by rw [List.size_toArray, hlen]⟩, q⟩
  · obtain ⟨its, r', pl, hz⟩ := I.tuple hq
    have hlen := r'.length
    exact len_tuple pl (by simp only [List.size_toArray] <;> omega) ⟨.int ys.length, H, I.tok _, ⟨s.toks + 1, by rw [List.size_toArray, hlen]⟩, q⟩
theorem call_len_str : CallR X (.builtin "len") (fun xs H Q => ∃ z, xs = [.str z] ∧ z.length ≤ sizeLine ∧ Q (.int z.length) H) := by
  intro pins s σ H xs us Q I r h
  obtain ⟨z, rfl, hz, q⟩ := h
  obtain ⟨u, rfl, t, rfl⟩ := vals1 r
  have hn := line63
  exact len_str (by omega) ⟨.int z.length, H, I.tok _, ⟨_, rfl⟩, q⟩
theorem CallR.or {f : Value} {r r' : List V → Hp → VK → Prop} (h : CallR X f r) (h' : CallR X f r') : CallR X f (fun xs H Q => r xs H Q ∨ r' xs H Q) := by
  intro pins s σ H xs us Q I rs q
  rcases q with q | q
  · exact h pins s σ H xs us Q I rs q
  · exact h' pins s σ H xs us Q I rs q
theorem call_list_of : CallR X (.type "list") (fun xs H Q => ∃ p ys, xs = [.ref p] ∧ (SqL X.K H p ys ∨ SqT X.K H p ys) ∧ ∀ l, H l = none → Q (.ref l) (upd H l (.lst ys))) := by
  intro pins s σ H xs us Q I r h
  obtain ⟨p, ys, rfl, hq, q⟩ := h
  obtain ⟨u, rfl, rx⟩ := vals1 r
  cases rx
  have fin : ∀ (its : List Value), Vals ys its → ys.length ≤ sizeLine → ∀ (h' : Heap) (c' : Nat), (∀ b o', s.heap.get? b = some o' → h'.get? b = some o') →
      h'.get? s.heap.objs.size = some { cls := .type "list", dict := none, data := .seq its.toArray c', slots := #[] } → EP X pins σ Q (.ref s.heap.objs.size) { s with heap := h' } := fun its r' hz h' c' kp e =>
    ⟨.ref s.heap.objs.size, _, I.laid (t' := s.toks) kp (Nat.le_refl _) (show ObjOk X.prog X.w _ h' _ (.lst ys) from ⟨hz, its, c', r', e⟩), rfl, q _ (I.hok.fresh (Nat.le_refl _))⟩
  rcases hq with hq | hq
  · obtain ⟨its, r', pl, hz⟩ := I.list hq
    have hlen := r'.length
    obtain ⟨o, ho, hc, n, hd⟩ := pl.isList
    exact call_list_seq p (.inl rfl) ho hc hd (fun h' c' kp e => fin its r' hz h' c' kp e) (by simp only [List.size_toArray] <;> omega)
  · obtain ⟨its, r', pl, hz⟩ := I.tuple hq
    have hlen := r'.length
    obtain ⟨o, ho, hc, n, hd⟩ := pl
    exact call_list_seq p (.inr rfl) ho hc hd (fun h' c' kp e => fin its r' hz h' c' kp e) (by simp only [List.size_toArray] <;> omega)
theorem call_tuple_of : CallR X (.type "tuple") (fun xs H Q => ∃ p ys, xs = [.ref p] ∧ ((SqL X.K H p ys ∧ ∀ l, H l = none → Q (.ref l) (upd H l (.tup ys))) ∨ (SqT X.K H p ys ∧ Q (.ref p) H))) := by
  intro pins s σ H xs us Q I r h
  obtain ⟨p, ys, rfl, h⟩ := h
  obtain ⟨u, rfl, rx⟩ := vals1 r
  cases rx
  rcases h with ⟨hq, q⟩ | ⟨hq, q⟩
  · obtain ⟨its, r', pl, hz⟩ := I.list hq
    have hlen := r'.length
    refine call_tuple_list pl.isList (fun h' kp => ?_) (by simp only [List.size_toArray] <;> omega)
    have I1 : Inv X pins σ H { s with heap := h' } := I.kept (t' := s.toks) kp
    have I2 : Inv X pins σ (upd H h'.objs.size (.tup ys)) { s with heap := h'.push { cls := .type "tuple", data := .seq its.toArray } } :=
      I1.laid (t' := s.toks) (fun b o e => Heap.get?_push_of_some _ e) (Nat.le_refl _) (show ObjOk X.prog X.w _ _ _ (.tup ys) from ⟨hz, its, r', IsTup.new _ _⟩)
    exact ⟨.ref h'.objs.size, _, I2, rfl, q _ (I1.hok.fresh (Nat.le_refl _))⟩
  · obtain ⟨its, r', pl, hz⟩ := I.tuple hq
    exact call_tuple_same pl ⟨.ref p, H, I, rfl, q⟩
def tyV (K : PySem.W.Frag) (T : String) (x : V) (H : Hp) : Prop := match x with
  | .str _ => T = "str"
  | .int _ => T = "int"
  | .ref p => (T = "list" ∧ ∃ xs, SqL K H p xs) ∨ (T = "tuple" ∧ ∃ o, K.lookup p = some o ∧ o.cls = .type "tuple" ∧ o.dict = none) ∨
      (T = "dict" ∧ ((∃ kvs, H p = some (.dK kvs)) ∨ ∃ kvs, H p = some (.dT kvs))) ∨ (T = "set" ∧ ∃ S n, H p = some (.set S n))
  | _ => False
theorem tyV_is {pins : List (Addr × Obj)} {σ : St} {H : Hp} {s : Shared} {T : String} {x : V} {v : Value} (I : Inv X pins σ H s) (r : RelV x v) (ty : tyV X.K T x H) :
    s.TypeIs v T ∧ ∀ a, v = .ref a → ∃ ob, s.heap.get? a = some ob ∧ ob.dict = none := by
  cases x with
  | str z =>
    obtain ⟨t, rfl⟩ := r
    cases (show T = "str" from ty)
    exact ⟨typeIs_str s z t, fun _ e => nomatch e⟩
  | int i =>
    obtain ⟨t, rfl⟩ := r
    cases (show T = "int" from ty)
    exact ⟨typeIs_int s i t, fun _ e => nomatch e⟩
  | ref p =>
    cases r
    rcases ty with ⟨rfl, xs, hq⟩ | ⟨rfl, o, hk, hc, hd⟩ | ⟨rfl, hk⟩ | ⟨rfl, S, n, hk⟩
    · obtain ⟨its, _, pl, _⟩ := I.list hq
      refine ⟨pl.isList.typeIs, fun a e => ?_⟩
      cases e
      obtain ⟨o, n, e, c, hd, _⟩ := pl
      exact ⟨o, e, hd⟩
    · refine ⟨⟨o, I.kIn p o hk, hc⟩, fun a e => ?_⟩
      cases e
      exact ⟨o, I.kIn _ o hk, hd⟩
    · have z : ∃ o, s.heap.get? p = some o ∧ o.ExactDict := by
        rcases hk with ⟨kvs, hk⟩ | ⟨kvs, hk⟩
        · obtain ⟨_, _, _, _, o, _, _, e, ex, _⟩ := I.hok p _ hk
          exact ⟨o, e, ex⟩
        · obtain ⟨_, _, _, _, o, _, _, e, ex, _⟩ := I.hok p _ hk
          exact ⟨o, e, ex⟩
      obtain ⟨o, e, ex⟩ := z
      refine ⟨⟨o, e, ex.1⟩, fun a e2 => ?_⟩
      cases e2
      exact ⟨o, e, ex.2.1⟩
    · obtain ⟨o, _, _, _, e, ex, _⟩ := I.hok p _ hk
      refine ⟨⟨o, e, ex.1⟩, fun a e2 => ?_⟩
      cases e2
      exact ⟨o, e, ex.2.1⟩
  | _ => exact False.elim ty
def tBM (K : PySem.W.Frag) (T : String) (r : V → List V → Hp → VK → Prop) (to : TE) (t : TA) : TE := fun σ H Q => to σ H fun x H1 => tyV K T x H1 ∧ t σ H1 fun xs H2 => r x xs H2 Q
variable {o e : Expr} {es : List Expr} {to : TE} {t : TA} {name : Str} {apos cpos : Pos} {T id : String} {r : V → List V → Hp → VK → Prop}
theorem pe_bm (pa : PlainAttrs T) (slot : Slot T name id) (hty : typeOf (.builtin id) = pure (.type "method_descriptor")) (hm : MtR X id r) (ho : PE X o to) (ha : PA X (e :: es) t)
    (hbase : attributeBase o name X.env (eval o X.env) = eval o X.env := by rfl)
    (hfew : ((backTo cpos (starEach (e :: es) X.env)).all (fun x => !x.1) && (backToKw cpos (keywordEach [] X.env)).all (fun x => x.1.isSome)
      && decide ((e :: es).length + ([] : List Keyword).length + (if ([] : List Keyword).isEmpty then 0 else 1) < 30)) = true := by rfl)
    (hline : (apos.endLine == cpos.line) = true := by rfl) (hs : starEach (e :: es) X.env = (false, eval e X.env) :: starEach es X.env := by rfl) (hplain : (backTo cpos (starEach es X.env)).any (·.1) = false := by rfl) :
    PE X (.Call (.Attribute o name apos) (e :: es) [] cpos) (tBM X.K T r to t) := by
  intro pins s σ H Q I h
  refine wpAny_Call_method_late hbase hfew hline rfl (thn (ho pins s σ H _ I h) fun v s1 ⟨x, H1, I1, r1, ty, q1⟩ => ?_)
  obtain ⟨h1, h2⟩ := tyV_is I1 r1 ty
  refine ⟨T, id, pa, slot, hty, h1, h2, ?_⟩
  have hA := ha cpos pins s1 σ H1 _ I1 q1
  rw [hs] at hA ⊢
  refine Calls.callWith_builtin (by show (false || (backTo cpos (starEach es X.env)).any (·.1)) = false; rw [hplain] <;> rfl) (Calls.evalArgs_plain ?_)
  exact thn hA fun us s2 ⟨vs, H2, I2, r2, q2⟩ => hm pins s2 σ H2 x vs v us Q I2 r1 r2 q2
end
end L2
namespace L2
open PySem PySem.Spec PyProof.Rows
def MtM (X : Cx) (id : String) (r : V → List V → Hp → VK → Prop) : Prop :=
  ∀ (pins : List (Addr × Obj)) (s : Shared) (σ : St) (H : Hp) (x : V) (xs : List V) (v : Value) (us : List Value) (Q : VK), Inv X pins σ H s → RelV x v → Vals xs us → r x xs H Q →
    wpAny (model X.prog X.w) X.A (call (.builtin id) (v :: us)) (EP X pins σ Q) X.xe s
theorem Vals.one : ∀ {x : V} {us : List Value}, Vals [x] us → ∃ u, us = [u] ∧ RelV x u
  | _, _, .cons r .nil => ⟨_, rfl, r⟩
theorem Vals.eraseIdx : ∀ {xs : List V} {us : List Value} (i : Nat), Vals xs us → Vals (xs.eraseIdx i) (us.eraseIdx i)
  | _, _, _, .nil => .nil
  | _, _, 0, .cons _ t => t
  | _, _, i + 1, .cons r t => .cons r (Vals.eraseIdx i t)
theorem Vals.rep {xs : List V} {us : List Value} (h : Vals xs us) : ∀ k : Nat, Vals (List.replicate k xs).flatten (List.replicate k us).flatten
  | 0 => .nil
  | k + 1 => by
    rw [List.replicate_succ, List.replicate_succ, List.flatten_cons, List.flatten_cons]
    exact Vals.append h (Vals.rep h k)
theorem len_erase {α : Type} : ∀ (l : List α) (i : Nat), (l.eraseIdx i).length ≤ l.length
  | [], _ => Nat.le_refl _
  | _ :: _, 0 => Nat.le_succ _
  | _ :: r, i + 1 => Nat.succ_le_succ (len_erase r i)
theorem foldl_rep (its : List Value) : ∀ (k : Nat) (acc : List Value),
    List.foldl (fun x1 x2 => x1 ++ x2) acc.toArray (List.replicate k its.toArray) = (acc ++ (List.replicate k its).flatten).toArray
  | 0, acc => by simp
  | k + 1, acc => by
    have e : acc.toArray ++ its.toArray = (acc ++ its).toArray := by simp
    have e2 : (acc ++ its) ++ (List.replicate k its).flatten = acc ++ (List.replicate (k + 1) its).flatten := by
      rw [List.replicate_succ, List.flatten_cons, List.append_assoc]
    rw [← e2, ← foldl_rep its k (acc ++ its), ← e, List.replicate_succ, List.foldl_cons]
section
variable {X : Cx} {pins : List (Addr × Obj)} {σ : St} {H : Hp} {s : Shared} {l b : Addr} {xs ys zs : List V}
theorem Inv.lset {its its' : List Value} {n : Nat} {f : Array Value → Array Value} {t' : Nat} (I : Inv X pins σ H s) (hH : H l = some (.lst xs))
    (e : s.heap.get? l = some { cls := .type "list", data := .seq its.toArray n }) (hf : f its.toArray = its'.toArray) (hv : Vals ys its') (hz : ys.length ≤ sizeLine) :
    Inv X pins σ (upd H l (.lst ys)) { s with heap := s.heap.update l (Obj.mapSeq f), toks := t' } := by
  have q := PySem.IsL.update e f
  rw [hf] at q
  refine I.write (x := l) (e := l) (by rw [hH]; exact trivial) (.inl rfl) (fun b' u hb hu => (Heap.get?_update_other s.heap (Obj.mapSeq f) (Ne.symm hb)).trans hu) ⟨_, q⟩ ?_
  exact ⟨hz, its', _, hv, q⟩
theorem Inv.lnew {its : List Value} {t' : Nat} (I : Inv X pins σ H s) (hv : Vals ys its) (hz : ys.length ≤ sizeLine) :
    Inv X pins σ (upd H s.heap.objs.size (.lst ys)) { s with heap := s.heap.push { cls := .type "list", data := .seq its.toArray }, toks := t' } :=
  I.laid (fun _ _ q => Heap.get?_push_of_some _ q) (Nat.le_refl _) ⟨hz, its, 0, hv, Heap.get?_push_size _ rfl⟩
theorem Inv.fresh (I : Inv X pins σ H s) : H s.heap.objs.size = none := I.hok.fresh (Nat.le_refl _)
theorem Inv.lstM (I : Inv X pins σ H s) (hH : H l = some (.lst xs)) : xs.length ≤ sizeLine ∧ ∃ (its : List Value) (n : Nat), Vals xs its ∧ xs.length = its.length ∧ s.heap.get? l = some { cls := .type "list", data := .seq its.toArray n } := by
  obtain ⟨z, its, n, r, e⟩ := I.hok l _ hH
  exact ⟨z, its, n, r, r.length, e⟩
theorem notLongL {n : Nat} (h : n ≤ sizeLine) : Builtin.List.listTooLong n = false := by
  unfold Builtin.List.listTooLong
  exact decide_eq_false (by omega)
end
section
variable {X : Cx}
def rAppend : V → List V → Hp → VK → Prop := fun x vs H Q => ∃ l xs y, x = .ref l ∧ vs = [y] ∧ H l = some (.lst xs) ∧ xs.length < sizeLine ∧ Q .non (upd H l (.lst (xs ++ [y])))
theorem mt_append : MtM X "list.append" rAppend := by
  intro pins s σ H x vs v us Q I rx rv h
  obtain ⟨l, xs, y, rfl, rfl, hH, hz, q⟩ := h
  cases rx
  obtain ⟨u, rfl, ru⟩ := rv.one
  obtain ⟨z, its, n, r, hl, e⟩ := I.lstM hH
  refine call_meets F.slot_list_append ⟨_, e, rfl⟩ F.entry_list_append (F.args_list_append_2 _ _) (PySem.list_append l its.toArray n u (by rw [List.size_toArray]; omega)) ⟨e, ?_⟩
  refine ⟨.non, _, I.lset (its' := its ++ [u]) hH e (by simp) (r.append (.cons ru .nil)) ?_, rfl, q⟩
  rw [List.length_append, List.length_singleton]
  omega
def rPopAt : V → List V → Hp → VK → Prop := fun x vs H Q => ∃ l xs i k y, x = .ref l ∧ vs = [.int i] ∧ H l = some (.lst xs) ∧ -(2 ^ 63) ≤ i ∧ i < 2 ^ 63 ∧ seqIndex? i xs.length = some k ∧ xs[k]? = some y ∧ Q y (upd H l (.lst (xs.eraseIdx k)))
theorem mt_popAt : MtM X "list.pop" rPopAt := by
  intro pins s σ H x vs v us Q I rx rv h
  obtain ⟨l, xs, i, k, y, rfl, rfl, hH, h1, h2, hk, hy, q⟩ := h
  cases rx
  obtain ⟨u, rfl, ru⟩ := rv.one
  obtain ⟨t, rfl⟩ := ru
  obtain ⟨z, its, n, r, hl, e⟩ := I.lstM hH
  obtain ⟨w, hw, rw'⟩ := r.get hy
  refine call_meets F.slot_list_pop ⟨_, e, rfl⟩ F.entry_list_pop (F.args_list_pop_2 _ _)
    (MeetsSeq.list_pop_at l its.toArray n i t k w (fitsIndex_both h1 h2) (by rw [List.size_toArray, ← hl]; exact hk) (by rw [← Array.getElem?_toList]; exact hw) (by rw [List.size_toArray]; omega)) ⟨e, ?_⟩
  refine ⟨y, _, I.lset (its' := its.eraseIdx k) hH e ?_ (r.eraseIdx k) ?_, rw', q⟩
  · show its.toArray.eraseIdxIfInBounds k = (its.eraseIdx k).toArray
    rw [List.eraseIdxIfInBounds_toArray]
  · have := len_erase xs k
    omega
theorem len_rep {α : Type} (xs : List α) (k : Nat) : (List.replicate k xs).flatten.length = k * xs.length := by
  induction k with
  | zero => simp
  | succ k ih => rw [List.replicate_succ, List.flatten_cons, List.length_append, ih, Nat.succ_mul, Nat.add_comm]
end
section
variable {prog : Program} {w : World} {A : Around} {E : Value → Shared → Prop} {s : Shared}
end
section
variable {X : Cx}
end
end L2
namespace Att
open PySem PySem.W PySem.Calls PyProof.Rows
theorem ints_of_wellAll {P : Params} {h : Heap} : ∀ (ns : List Int) (vs : List Value), WellAll P h vs (ns.map WData.int) → IntsAre vs ns := by
  intro ns
  induction ns with
  | nil =>
    intro vs w
    rw [List.map_nil] at w
    cases w
    exact .nil
  | cons n ns ih =>
    intro vs w
    rw [List.map_cons] at w
    cases w with
    | cons a b =>
      cases a
      exact .cons _ _ (ih _ b)
theorem script_of {l : OpenLaw} {n : Nat} (hn : l.most = some n) {P : Params} {h : Heap} {args : List WData} {vals : List Value}
    (hpre : l.row.toRowW.claim.pre args = true) (hwl : WellAll P h vals args) :
    ∃ a vs ns, vals = [Value.ref a] ∧ args = [WData.list (ns.map WData.int)] ∧ h.get? a = some { cls := .type "list", data := .seq vs.toArray } ∧ IntsAre vs ns ∧ ns.length ≤ n := by
  have hsh : WShape.hasAll [] args [.list .int] = true := (pre_splitW hpre).1
  have hc : l.pre.holds [] { args := args } = true := (pre_splitW hpre).2
  obtain ⟨d, r, rfl, h1, h2⟩ := hasAllW_cons hsh
  obtain rfl := hasAllW_nil h2
  obtain ⟨xs, rfl, h3⟩ := hasW_list h1
  obtain ⟨ns, rfl⟩ := items_int h3
  have hlen : ns.length ≤ n := by
    unfold OpenLaw.pre at hc
    have h4 : (WTm.not (.lt (.lit (.int (n : Int))) (.len (.arg 0)))).holds [] { args := [.list (ns.map .int)] } = true := by
      have h4 := (holds_andW hc).1
      rw [hn] at h4
      exact h4
    have h5 := condW_of h4 (w_not (w_lt w_lit (w_len_list (w_arg rfl))))
    rw [List.length_map] at h5
    refine Nat.le_of_not_lt fun q => ?_
    have q' : (n : Int) < ((ns.length : Nat) : Int) := by omega
    first
      | (rw [decide_eq_true q'] at h5; exact absurd h5 (by decide))
      | (simp at h5; omega)
  cases hwl with
  | cons w1 w2 =>
    cases w2
    cases w1 with
    | list ho hall => exact ⟨_, _, ns, rfl, rfl, ho, ints_of_wellAll ns _ hall, hlen⟩
theorem post_true (l : OpenLaw) (args : List WData) : l.row.toRowW.claim.post args (.bool true) args = true :=
  postW_of (r := l.row.toRowW) (X := (true == true))
    (show WShape.has [] (.bool true) .bool = true by first | rfl | decide | simp [WShape.has, WShape.arms, WShape.armsAll])
    (show (WTm.eq .res (.lit (.bool true))).value [] { args := args, res := some (.bool true), after := args } = some (.bool (true == true)) from w_eq_bool (w_res rfl) w_lit) rfl
theorem attach_call {l : OpenLaw} {n : Nat} {q : Program} {loose : List Str} {XP : (Str → Option Value) → Heap → Prop} {YP : World → Heap → Prop} {d : DefRec}
    (hn : l.most = some n) (hdf : d.params.defaults = [])
    (call : ∀ (w : World) (s₀ s₁ : Shared) (mg mb : Str → Option Value) (fa : Addr) (o : Obj) (pm cd doc : Value) (a : Addr) (vs : List Value) (ns : List Int),
      Ground q loose [] XP w s₀ mg mb s₁.heap → YP w s₁.heap →
      s₁.heap.get? fa = some o → o.data = .func (docDef d.name d.params d.body d.scope pm cd doc) → s₁.heap.CodeRec cd d.name → mg d.name = some (.ref fa) →
      s₁.heap.get? a = some { cls := .type "list", data := .seq vs.toArray } → IntsAre vs ns → ns.length ≤ n → s₁.gens = #[] →
      codeAny (model l.prog w) callerA (.call (.ref fa) ⟨[.ref a], []⟩) (fun r s' => r = .ok (.ret (.bool true)) ∧ OldK s₁.heap s'.heap ∧ s'.os = s₁.os ∧ AllBare s'.gens) s₁) :
    WalkO q loose XP YP l.row.toRowW d [] (fun f vs => PySem.call f vs) := by
  intro w s₀ s₁ mg mb G Y fa o pm cd doc dV kV ho hd hcd hD hmg hg args vals as hpre hlay hrd hwl hlo
  obtain rfl : dV = .none := Dflts.none hD hdf
  obtain rfl : kV = .none := Dflts.noKw hD
  obtain ⟨a, vs, ns, rfl, rfl, hobj, hints, hlen⟩ := script_of hn hpre hwl
  refine enter_call (codeAny_mono (call w s₀ s₁ mg mb fa o pm cd doc a vs ns G Y ho (fd_plain hd) hcd hmg hobj hints hlen hg) fun r s' hq => ?_)
  obtain ⟨rfl, h2, h3, h4⟩ := hq
  exact ⟨.inl ⟨.bool true, .bool true, [], rfl, fun _ => rfl, .bool true, post_true l _, fun _ => ⟨List.Pairwise.nil, fun _ hm => (nomatch hm)⟩⟩, h2, h3, h4⟩
section
variable {prog : Program} {w : World} {A : Around} {E : Value → Shared → Prop} {s : Shared} {K : Frag}
end
end Att
namespace L2
open PySem PySem.Spec PyProof.Rows
theorem vals_ints : ∀ {vs : List Value} {ns : List Int}, IntsAre vs ns → Vals (ns.map V.int) vs
  | _, _, .nil => .nil
  | _, _, .cons n t h => .cons ⟨t, rfl⟩ (vals_ints h)
def Only (H : Hp) : Prop := ∀ b, H b = none ∨ ∃ o xs, H b = some (.frz o (.lst xs))
theorem law_call {P : Program} {w : World} {K : PySem.W.Frag} {mg mb : Str → Option Value} {CX : CXT} {k : Nat} {fa a : Addr} {fd : FuncData} {x : Str} {sp : Sp} {s₁ : Shared} {vs : List Value} {ns : List Int}
    (KX : K.In s₁.heap) (hns : s₁.heap.Ns mainGlobals mg) (hb : s₁.heap.Ns builtinsNs mb) (hbb : ∀ x : Str, x ≠ "__name__" → mb x = bootBuiltins x) (hlim : s₁.heap.NoLimit) (hg : s₁.gens = #[])
    (ha : s₁.heap.get? a = some { cls := .type "list", data := .seq vs.toArray }) (hi : IntsAre vs ns) (hl : ns.length ≤ sizeLine) (hr : Room k callerA)
    (F : ∀ base : Heap, K.In base → base.Ns mainGlobals mg → FnOk P w K mg base CX k fa fd [x] sp) (hbind : ∀ (s : Shared) (u : Value), BindsTo s fd ⟨[u], []⟩ [(x, u)])
    (hsp : ∀ H : Hp, Only H → SqL K H a (ns.map V.int) → sp [.ref a] H (fun v _ => v = .bl true) fun _ _ _ => False)
    (hCX : ∀ H e s', CX [] H s₁ (fun _ _ _ => False) e s' → False) :
    codeAny (model P w) callerA (.call (.ref fa) ⟨[.ref a], []⟩) (fun r s' => r = .ok (.ret (.bool true)) ∧ OldK s₁.heap s'.heap ∧ s'.os = s₁.os ∧ AllBare s'.gens) s₁ := by
  have rv := vals_ints hi
  have lenV := hi.length
  have core : ∀ H : Hp, Only H → SqL K H a (ns.map V.int) → HOk P w H s₁.heap → (∀ b, H b ≠ none → b = a) → (H a ≠ none → K.lookup a = none) →
      codeAny (model P w) callerA (.call (.ref fa) ⟨[.ref a], []⟩) (fun r s' => r = .ok (.ret (.bool true)) ∧ OldK s₁.heap s'.heap ∧ s'.os = s₁.os ∧ AllBare s'.gens) s₁ := by
    intro H hO hS hok hA hK
    have base_of : ∀ {b : Addr} {o : Obj}, s₁.heap.get? b = some o → H b = none → (hidT s₁.heap H).get? b = some o := fun e n => hidT_get e n
    have noA : ∀ {b : Addr} {o : Obj} {es : Array DictEntry} {ep : Nat}, s₁.heap.get? b = some o → o.data = .dict es ep → H b = none := fun {b o es ep} e d => by
      cases q : H b with
      | none => rfl
      | some u =>
        have e' : b = a := hA b (by rw [q]; simp)
        subst e'
        rw [ha] at e; cases e
        have d' : Data.seq vs.toArray _ = Data.dict es ep := d
        cases d'
    have nsK : ∀ {b : Addr} {m : Str → Option Value}, s₁.heap.Ns b m → (hidT s₁.heap H).Ns b m := fun {b m} ⟨o, es, ep, e, d, r⟩ => ⟨o, es, ep, base_of e (noA e d), d, r⟩
    have hKb : K.In (hidT s₁.heap H) := fun b o e => base_of (KX b o e) (by
      cases q : H b with
      | none => rfl
      | some u =>
        have e' : b = a := hA b (by rw [q]; simp)
        subst e'
        rw [hK (by rw [q]; simp)] at e; cases e)
    have hM : Mod K mg (hidT s₁.heap H) := ⟨hKb, nsK hns, ⟨mb, nsK hb, hbb⟩, let ⟨mc, h1, h2⟩ := hlim; ⟨mc, nsK h1, h2⟩⟩
    have e0 : Env0 P w K mg (hidT s₁.heap H) callerA [] s₁ H := ⟨rfl, hM, fun b o e => of_hidT e, Nat.le_of_eq (hidT_size _ _), trivial, fun b hb => absurd (show b ∈ ([] : List Addr) from hb) (by simp), hok, .of_eq hg⟩
    refine codeAny_mono ((F _ hKb (nsK hns)).run callerA [] s₁ H ⟨[.ref a], []⟩ [.ref a] [.ref a] _ _ hr e0 (hbind s₁ (.ref a)) (.cons rfl .nil) (hsp H hO hS)) fun r s' h => ?_
    cases r with
    | error e => exact (hCX H e s' h).elim
    | ok fl =>
      cases fl with
      | next => exact False.elim h
      | brk => exact False.elim h
      | cont => exact False.elim h
      | ret u =>
        obtain ⟨v, H', os, bare, un, hok', r', q⟩ := h
        have q' : v = .bl true := q
        subst q'
        obtain rfl : u = Value.bool true := r'
        refine ⟨rfl, OldK.of_keep fun b o e => ?_, os, bare⟩
        cases q : H b with
        | none => exact un.keep b o e q (by intro z; exact absurd (show b ∈ ([] : List Addr) from z) (by simp)) (by simp)
        | some u =>
          rcases hO b with z | ⟨ob, xs, z⟩
          · rw [q] at z; cases z
          · have z2 := un.frzs b ob _ z
            obtain ⟨e1, _⟩ := hok b _ z
            obtain ⟨e2, _⟩ := hok' b _ z2
            rw [e] at e1; cases e1
            exact e2
  cases hk : K.lookup a with
  | some o =>
    have e := KX a o hk
    rw [ha] at e
    cases e
    refine core (fun _ => none) (fun _ => .inl rfl) (.inr ⟨_, vs.toArray, _, hk, rfl, rfl, rfl, by rw [List.size_toArray, lenV]; exact hl, by simpa using rv⟩) (fun b u z => by have z' : (none : Option HO) = some u := z; cases z') (fun b z => absurd rfl z) fun z => absurd rfl z
  | none =>
    refine core (fun b => if b = a then some (.frz { cls := .type "list", data := .seq vs.toArray } (.lst (ns.map V.int))) else none) (fun b => ?_) (.inl (.inr ⟨{ cls := .type "list", data := .seq vs.toArray }, if_pos rfl⟩)) (fun b u z => ?_) (fun b z => ?_) fun _ => hk
    · by_cases hb : b = a
      · exact .inr ⟨_, _, if_pos hb⟩
      · exact .inl (if_neg hb)
    · by_cases hb : b = a
      · have z' := (if_pos hb).symm.trans z
        cases z'
        subst hb
        exact ⟨ha, by rw [List.length_map]; exact hl, vs, _, rv, ha⟩
      · have z' := (if_neg hb).symm.trans z
        cases z'
    · by_cases hb : b = a
      · exact hb
      · exact absurd (if_neg hb) z
end L2
namespace L2
open PySem PySem.Spec PyProof.Rows
theorem walk_of {l : PySem.W.OpenLaw} {n k : Nat} {q : Program} {loose : List Str} {XP : (Str → Option Value) → Heap → Prop} {YP : World → Heap → Prop} {d : DefRec} {K : Params → PySem.W.Frag} {CX : World → CXT} {sp : World → Sp} {x : Str}
    (hn : l.most = some n) (hn2 : n ≤ sizeLine) (hdf : d.params.defaults = []) (hr : Room k callerA)
    (hY : ∀ (w : World) (h : Heap), YP w h → (K w.params).In h)
    (F : ∀ (w : World) (mg : Str → Option Value) (fa : Addr) (h : Heap), (K w.params).In h → h.Ns mainGlobals mg → mg d.name = some (.ref fa) →
      ∃ fd : FuncData, (∀ (s : Shared) (u : Value), BindsTo s fd ⟨[u], []⟩ [(x, u)]) ∧
        ∀ base : Heap, (K w.params).In base → base.Ns mainGlobals mg → FnOk l.prog w (K w.params) mg base (CX w) k fa fd [x] (sp w))
    (hsp : ∀ (w : World) (H : Hp) (a : Addr) (ns : List Int), ns.length ≤ n → Only H → SqL (K w.params) H a (ns.map V.int) → sp w [.ref a] H (fun v _ => v = .bl true) fun _ _ _ => False)
    (hCX : ∀ (w : World) (H : Hp) (s : Shared) (e : Value) (s' : Shared), CX w [] H s (fun _ _ _ => False) e s' → False) :
    PySem.W.WalkO q loose XP YP l.row.toRowW d [] (fun f vs => PySem.call f vs) := by
  refine Att.attach_call hn hdf fun w s₀ s₁ mg mb fa o pm cd doc a vs ns G Y ho hd hcd hmg hobj hints hlen hg => ?_
  have KX := hY w _ Y
  obtain ⟨fd, hb, hF⟩ := F w mg fa _ KX G.T.g hmg
  exact law_call KX G.T.g G.T.b G.T.builtins G.T.nolimit hg hobj hints (Nat.le_trans hlen hn2) hr hF hb (fun H hO hS => hsp w H a ns hlen hO hS) fun H e s' => hCX w H s₁ e s'
end L2
namespace L2
open PySem PySem.Spec PyProof.Rows
def defArgs (s : Stmt) : Arguments := match s with
  | .FunctionDef _ a _ _ _ _ _ _ _ _ => a
  | _ => { posonlyargs := [], args := [], vararg := none, kwonlyargs := [], kw_defaults := [], kwarg := none, defaults := [] }
def defBody (s : Stmt) : List Stmt := match s with
  | .FunctionDef _ _ b _ _ _ _ _ _ _ => b
  | _ => []
def defScope (s : Stmt) : Scope := match s with
  | .FunctionDef _ _ _ _ _ _ sc _ _ _ => sc
  | _ => { kind := .function, names := [], isGenerator := false, isCoroutine := false }
abbrev CX0 : CXT := fun _ _ _ _ _ _ => False
abbrev E0 : XK := fun _ _ _ => False
theorem pass0 {X : Cx} : Passes CX0 X E0 := fun _ _ _ _ _ _ _ h => h.elim
structure Fun (K : PySem.W.Frag) (x qual : Str) (st : Stmt) (f : Addr) (fd : FuncData) : Prop where
  ex : ∃ (oc : Value) (od : Option Addr) (kV doc pm : Value) (an : Option Addr) (cdv ct : Value) (osl : Array (Option Value)),
    fd = PySem.W.fnOf x qual (defArgs st) (defBody st) (defScope st) .none kV doc pm an cdv ct ∧ K.lookup f = some ⟨oc, od, .func fd, osl⟩ ∧ PySem.W.codeIn K cdv qual = true
  kp : PySem.W.keepIn K (.ref f) = true
section
variable {P : Program} {w : World} {K : PySem.W.Frag} {mg : Str → Option Value} {base : Heap}
theorem Fun.ok {x qual : Str} {st : Stmt} {f : Addr} {fd : FuncData} {N ps : List Str} {k : Nat} {sp : Sp} (F : Fun K x qual st f fd) (S : FnScope N ps (defScope st)) (len : ∀ vs H Q E, sp vs H Q E → vs.length = ps.length)
    (hbody : ∀ (cdv : Value) (A : Around) (outer : List Env) (s : Shared) (H : Hp) (vs : List V) (Q : VK) (E : XK), Room k (A.deeper (envOfC qual (defScope st) s.heap.objs.size f cdv)) → sp vs H Q E →
      ∃ t, PSs (cxOf CX0 P w K mg base N qual (defScope st) f cdv A outer s H E).nox (defBody st) t ∧ t { nx := fun _ H' => Q .non H', rt := Q } (start N vs) H) : FnOk P w K mg base CX0 (k + 1) f fd ps sp := by
  obtain ⟨oc, od, kV, doc, pm, an, cdv, ct, osl, rfl, lk, hcd⟩ := F.ex
  refine fn_of lk hcd S len fun A outer s H vs Q E hr hsp => ?_
  obtain ⟨t, h, q⟩ := hbody cdv A outer s H vs Q E hr hsp
  exact ⟨t, h.nox, q⟩
theorem Fun.binds {x qual : Str} {st : Stmt} {f : Addr} {fd : FuncData} {ps : List Str} (F : Fun K x qual st f fd)
    (h : ∀ (kV doc pm : Value) (an : Option Addr) (cdv ct : Value) (us : List Value), us.length = ps.length → bindArgs (PySem.W.fnOf x qual (defArgs st) (defBody st) (defScope st) .none kV doc pm an cdv ct) ⟨us, []⟩ = pure (ps.zip us)) : Binds K fd ps [] := by
  obtain ⟨oc, od, kV, doc, pm, an, cdv, ct, osl, rfl, lk, hcd⟩ := F.ex
  exact .all (h kV doc pm an cdv ct)
theorem fun_mk {x qual : Str} {st : Stmt} {f : Addr} {oc : Value} {od an : Option Addr} {osl : Array (Option Value)} {kV doc pm cdv ct : Value} (l : K.lookup f = some ⟨oc, od, .func (PySem.W.fnOf x qual (defArgs st) (defBody st) (defScope st) .none kV doc pm an cdv ct), osl⟩)
    (c : PySem.W.codeIn K cdv qual = true) (k : PySem.W.keepIn K (.ref f) = true) : Fun K x qual st f (PySem.W.fnOf x qual (defArgs st) (defBody st) (defScope st) .none kV doc pm an cdv ct) := ⟨⟨oc, od, kV, doc, pm, an, cdv, ct, osl, rfl, l, c⟩, k⟩
end
section
variable {X : Cx}
end
end L2
set_option Elab.async false
set_option linter.all false
set_option maxRecDepth 100000
namespace L2
open PySem PySem.Spec PyProof.Rows
section
variable {κ : Type} [DecidableEq κ]
def valV (kvs : List (κ × V)) (k : κ) : Option V := (kvs.find? fun kv => decide (kv.1 = k)).map (·.2)
def putK (kvs : List (κ × V)) (k : κ) (v : V) : List (κ × V) :=
  if (kvs.any fun kv => decide (kv.1 = k)) = true then kvs.map (fun kv => if kv.1 = k then (kv.1, v) else kv) else kvs ++ [(k, v)]
theorem RelO.getD {o : Option V} {u : Option Value} {d : V} {d' : Value} (r : RelO o u) (rd : RelV d d') : RelV (o.getD d) (u.getD d') := by
  cases o with
  | none => cases u with
    | none => exact rd
    | some _ => exact (show False from r).elim
  | some _ => cases u with
    | none => exact (show False from r).elim
    | some _ => exact r
end
section
variable {P : Program} {w : World} {H : Hp} {h : Heap} {a : Addr}
end
def DGet (H : Hp) (a : Addr) (y : V) (r : Option V) : Prop :=
  (∃ kvs k, Rd H a (.dK kvs) ∧ y = kV k ∧ r = valV kvs k) ∨ ∃ kvs k b, Rd H a (.dT kvs) ∧ y = .ref b ∧ H b = some (.tup (k.map kV)) ∧ r = valV kvs k
def DPut (H : Hp) (a : Addr) (y v : V) (H' : Hp) : Prop :=
  (∃ kvs k, H a = some (.dK kvs) ∧ y = kV k ∧ kvs.length < sizeLine ∧ H' = upd H a (.dK (putK kvs k v))) ∨
  ∃ kvs k b, H a = some (.dT kvs) ∧ y = .ref b ∧ H b = some (.tup (k.map kV)) ∧ kvs.length < sizeLine ∧ H' = upd H a (.dT (putK kvs k v))
theorem DGet.k {H : Hp} {a : Addr} {kvs : List (Key × V)} {k : Key} (e : H a = some (.dK kvs)) : DGet H a (kV k) (valV kvs k) := .inl ⟨kvs, k, .inl e, rfl, rfl⟩
theorem DGet.t {H : Hp} {a b : Addr} {kvs : List (List Key × V)} {k : List Key} (e : H a = some (.dT kvs)) (eb : H b = some (.tup (k.map kV))) : DGet H a (.ref b) (valV kvs k) := .inr ⟨kvs, k, b, .inl e, rfl, eb, rfl⟩
theorem DPut.k {H : Hp} {a : Addr} {kvs : List (Key × V)} {k : Key} {v : V} (e : H a = some (.dK kvs)) (hl : kvs.length < sizeLine) : DPut H a (kV k) v (upd H a (.dK (putK kvs k v))) := .inl ⟨kvs, k, e, rfl, hl, rfl⟩
theorem DPut.t {H : Hp} {a b : Addr} {kvs : List (List Key × V)} {k : List Key} {v : V} (e : H a = some (.dT kvs)) (eb : H b = some (.tup (k.map kV))) (hl : kvs.length < sizeLine) :
    DPut H a (.ref b) v (upd H a (.dT (putK kvs k v))) := .inr ⟨kvs, k, b, e, rfl, eb, hl, rfl⟩
section
variable {X : Cx} {pins : List (Addr × Obj)} {σ : St} {H : Hp} {s : Shared} {a : Addr} {y v : V} {u r : Value} {o : Option V} {A : Around} {E : Value → Shared → Prop}
theorem Inv.big (I : Inv X pins σ H s) : sysModules < s.heap.objs.size := by
  have h : mainGlobals < s.heap.objs.size := (I.mod.glob.keeps I.bk).lt
  exact Nat.lt_trans (by decide) h
end
section
variable {X : Cx} {pins : List (Addr × Obj)} {σ : St} {H : Hp} {s : Shared} {a : Addr} {kvs : List (Key × V)} {k : Key} {u : Value} {A : Around} {E : Value → Shared → Prop}
end
section
variable {X : Cx} {o i e value : Expr} {pos pos' tpos : Pos} {td ty tv : TE}
end
theorem dk_empty {P : Program} {w : World} {H : Hp} (h : Heap) (hb : sysModules < h.objs.size) : ObjOk P w H (h.push { cls := .type "dict", data := .dict #[] }) h.objs.size (.dK []) :=
  ⟨Nat.zero_le _, beq_eq_false_iff_ne.mpr (Ne.symm (Nat.ne_of_lt hb)), [], .nil, Heap.DictOf.new h⟩
def tDNewK : TE := fun _ H Q => ∀ p, H p = none → Q (.ref p) (upd H p (.dK []))
section
variable {X : Cx} {pos : Pos}
theorem pe_dnewK : PE X (.Dict [] [] pos) tDNewK := fun pins s σ H Q I h =>
  wpAny_Dict_empty ⟨.ref s.heap.objs.size, _, I.laid (a := s.heap.objs.size) (o := .dK []) (t' := s.toks) (fun _ _ q => Heap.get?_push_of_some _ q) (Nat.le_refl _) (dk_empty s.heap I.big), rfl, h _ (I.hok.fresh (Nat.le_refl _))⟩
end
section
variable {X : Cx} {pins : List (Addr × Obj)} {σ : St} {H : Hp} {s : Shared} {a : Addr} {y d : V} {u r : Value} {o : Option V} {A : Around} {E : Value → Shared → Prop}
end
section
variable {X : Cx} {o e f : Expr} {apos cpos : Pos} {td ty tx : TE}
end
section
variable {X : Cx} {pins : List (Addr × Obj)} {σ : St} {H : Hp} {s : Shared} {a : Addr} {kvs : List (Key × V)} {A : Around} {E : Value → Shared → Prop}
end
section
variable {X : Cx} {pins : List (Addr × Obj)} {σ : St} {H : Hp} {s : Shared} {a : Addr} {y : V} {u : Value} {A : Around} {E : Value → Shared → Prop}
end
end L2
set_option Elab.async false
set_option linter.all false
set_option maxRecDepth 100000
set_option maxHeartbeats 4000000
namespace L2
open PySem PySem.Spec PyProof.Rows
section
variable {X : Cx}
theorem op_le_str : OpR X (compareOp .LtE) (fun x y H Q => ∃ i j, x = .str i ∧ y = .str j ∧ Q (.bl (!decide (j.cps.toList < i.cps.toList))) H) := by
  intro pins s σ H x y v u Q I rx ry h
  obtain ⟨i, j, rfl, rfl, q⟩ := h
  obtain ⟨t, rfl⟩ := rx
  obtain ⟨t', rfl⟩ := ry
  exact PySem.P.le_str (fin_bl I q rfl)
def cutL {α : Type} (xs : List α) (lo hi : Option Int) : List α := (xs.drop (HT.sIx xs.length 0 lo)).take (HT.sIx xs.length xs.length hi - HT.sIx xs.length 0 lo)
def rSlS : V → Option Int → Option Int → Hp → VK → Prop := fun x lo hi H Q => ∃ z, x = .str z ∧ z.length ≤ sizeLine ∧ Q (.str ⟨(cutL z.cps.toList lo hi).toArray⟩) H
theorem strIdx (lo hi : Option Int) (n : Nat) : Builtin.Str.strSliceIndices lo hi 1 n = (List.range (HT.sIx n n hi - HT.sIx n 0 lo)).map fun k => HT.sIx n 0 lo + k := by
  have e1 : Builtin.Str.strSliceIndices lo hi 1 n = sliceRange ((HT.sIx n 0 lo : Nat) : Int) ((HT.sIx n n hi : Nat) : Int) 1 := by
    unfold Builtin.Str.strSliceIndices
    dsimp only
    congr 1
    · cases lo with
      | none => simp [HT.sIx]
      | some i => simp only [HT.sIx, show (1 : Int) > 0 by decide, if_true]; split <;> omega
    · cases hi with
      | none => simp [HT.sIx]
      | some i => simp only [HT.sIx, show (1 : Int) > 0 by decide, if_true]; split <;> omega
  rw [e1]
  exact sliceRange_one _ _
theorem pickS {α : Type} (xs : List α) (a : Nat) : ∀ k, a + k ≤ xs.length → ((List.range k).map fun j => a + j).filterMap (xs[·]?) = (xs.drop a).take k
  | 0, _ => by simp
  | k + 1, h => by
    rw [List.range_succ, List.map_append, List.filterMap_append, pickS xs a k (by omega)]
    have hk : a + k < xs.length := by omega
    rw [List.take_succ]
    congr 1
    simp [List.getElem?_drop, hk]
theorem sl_str : SlR X rSlS := by
  intro pins s σ H x v vl vu lo hi sl Q I rx hs pl pu h
  obtain ⟨z, rfl, hz, q⟩ := h
  obtain ⟨t, rfl⟩ := rx
  refine ⟨"str", _, PyProof.Rows.slot_str_getitem.lookup, typeIs_str s z t, ?_⟩
  have hl : z.cps.toList.length = z.length := by simp [Str.length]
  have fin : ∀ (l u : Option (Int × Tok)), vl = partValue l → vu = partValue u → l.map (·.1) = lo → u.map (·.1) = hi → wpAny (model X.prog X.w) X.A (getItem (.str z t) (.ref sl)) (EP X pins σ Q) X.xe s := by
    intro l u e1 e2 e3 e4
    subst e1 e2
    refine wpAny_getItem_str_slice (l := l) (u := u) (st := none) hs rfl ?_
    have hp : slicePicked z l u none = (List.range (HT.sIx z.length z.length hi - HT.sIx z.length 0 lo)).map fun k => HT.sIx z.length 0 lo + k := by
      unfold slicePicked
      rw [e3, e4]
      exact strIdx lo hi z.length
    have hb1 : HT.sIx z.length z.length hi ≤ z.length := HT.sIx_le _ _ (Nat.le_refl _) _
    have hb2 : HT.sIx z.length 0 lo ≤ z.length := HT.sIx_le _ _ (Nat.zero_le _) _
    unfold sliceMade
    split
    · rename_i c
      simp only [Bool.and_eq_true, beq_iff_eq] at c
      obtain ⟨_, c⟩ := c
      rw [hp, List.length_map, List.length_range] at c
      have e : (⟨(cutL z.cps.toList lo hi).toArray⟩ : Str) = z := by
        unfold cutL
        rw [hl]
        have z1 : HT.sIx z.length 0 lo = 0 := by omega
        have z2 : HT.sIx z.length z.length hi = z.length := by omega
        rw [z1, z2, List.drop_zero, Nat.sub_zero, List.take_of_length_le (by omega)]
      rw [e] at q
      exact ⟨.str z, H, I, ⟨_, rfl⟩, q⟩
    · have e : (⟨(cutL z.cps.toList lo hi).toArray⟩ : Str) = ⟨((slicePicked z l u none).filterMap (z.cps[·]?)).toArray⟩ := by
        rw [hp]
        unfold cutL
        rw [hl]
        by_cases hc : HT.sIx z.length 0 lo ≤ HT.sIx z.length z.length hi
        · rw [← pickS z.cps.toList _ _ (by omega)]
          simp only [Array.getElem?_toList]
        · rw [show HT.sIx z.length z.length hi - HT.sIx z.length 0 lo = 0 by omega]
          simp
      rw [e] at q
      refine ⟨?_, .str _, H, I.tok _, ⟨_, rfl⟩, q⟩
      rw [← e]
      show (cutL z.cps.toList lo hi).toArray.size ≤ sizeLine
      rw [List.size_toArray]
      unfold cutL
      rw [List.length_take, List.length_drop, hl]
      omega
  cases pl with
  | none => cases pu with
    | none => exact fin none none rfl rfl rfl rfl
    | int j t' => exact fin none (some (j, t')) rfl rfl rfl rfl
  | int i t' => cases pu with
    | none => exact fin (some (i, t')) none rfl rfl rfl rfl
    | int j t'' => exact fin (some (i, t')) (some (j, t'')) rfl rfl rfl rfl
theorem call_isinst : CallR X (.builtin "isinstance") (fun xs H Q => ∃ x T t b, xs = [x, .ty T] ∧ TyOf X.K H x t ∧ PySem.W.kitOne X.K t (.type T) = some b ∧ Q (.bl b) H) := by
  intro pins s σ H xs us Q I r h
  obtain ⟨x, T, t, b, rfl, ty, e, q⟩ := h
  obtain ⟨u, w', rfl, rx, rt⟩ := vals2 r
  cases rt
  exact isinst_ok I rx ty e fun tk => ⟨.bl b, H, I.tok tk, rfl, q⟩
theorem range_all_bl (bs : List Bool) : ((List.range bs.length).all fun i => (bs[i]?).getD true) = bs.all id := by
  have e : (List.range bs.length).map (fun i => (bs[i]?).getD true) = bs := by
    apply List.ext_getElem (by simp)
    intro i h1 h2
    simp [h2]
  have f : ((List.range bs.length).map fun i => (bs[i]?).getD true).all id = bs.all id := by rw [e]
  rw [← f, List.all_map]
  rfl
theorem call_all_bl (hc : X.calm = true) : CallR X (.builtin "all") (fun xs H Q => ∃ (p : Addr) (bs : List Bool), xs = [.ref p] ∧ SqL X.K H p (bs.map V.bl) ∧ Q (.bl (bs.all id)) H) := by
  intro pins s σ H xs us Q I r h
  obtain ⟨p, bs, rfl, hq, q⟩ := h
  obtain ⟨u, rfl, rx⟩ := vals1 r
  cases rx
  obtain ⟨its, r', pl, hz⟩ := I.list hq
  have hl := r'.length
  rw [List.length_map] at hl
  have hlt : p < s.heap.objs.size := by obtain ⟨_, e, _⟩ := pl.isList; exact Heap.lt_size e
  refine call_all_walk (wpAny_pyIter_list pl.isList ?_)
  refine ⟨s.heap.objs.size, [s.heap.objs.size, p], [s.heap.objs.size], its.toArray.size, _, _, fun i => (bs[i]?).getD true, rfl, Walks.list (A := X.A.in1) (I.ok.hd hc) _ p (Nat.ne_of_lt hlt) its.toArray,
    ⟨⟨_, Heap.get?_push_size _ rfl, rfl, rfl⟩, pl.isList.push _⟩, fun i v s' Q' E' hP hQ => ?_, fun h' tk hk => ?_⟩
  · have hP' : its[i]? = some v := by simpa using hP
    have hi : i < bs.length := by
      have := (List.getElem?_eq_some_iff.mp hP').1
      omega
    obtain ⟨u, e, ru⟩ := r'.get (i := i) (x := .bl bs[i]) (by simp [hi])
    rw [hP'] at e
    cases e
    cases ru
    simp only [List.getElem?_eq_getElem hi, Option.getD_some] at hQ
    exact wpAny_truthy_bool hQ
  · have e : ((List.range its.toArray.size).all fun i => (bs[i]?).getD true) = bs.all id := by
      rw [List.size_toArray, ← hl]; exact range_all_bl bs
    rw [e]
    exact ⟨.bl _, H, I.kept fun b x e => hk b x (fun hm => by rw [List.mem_singleton.mp hm] at e; exact Nat.lt_irrefl _ (Heap.lt_size e)) (Heap.get?_push_of_some _ e), rfl, q⟩
def signsV (x : Str) : List V := x.cps.toList.map fun c => V.str ⟨#[c]⟩
theorem signs_vals {x : Str} {acc : Array Value} (h : ItemsOf (SignAt x) acc x.cps.size) : Vals (signsV x) acc.toList := by
  obtain ⟨hs, ha⟩ := h
  have key : ∀ (cs : List Nat) (us : List Value), us.length = cs.length → (∀ (j : Nat) (v : Value), us[j]? = some v → ∃ c u, cs[j]? = some c ∧ v = .str ⟨#[c]⟩ u) → Vals (cs.map fun c => V.str ⟨#[c]⟩) us := by
    intro cs
    induction cs with
    | nil => intro us hl _; cases us with | nil => exact .nil | cons _ _ => simp at hl
    | cons c cs ih =>
      intro us hl hp
      cases us with
      | nil => simp at hl
      | cons u us =>
        refine .cons ?_ (ih us (by simpa using hl) fun j v e => hp (j + 1) v (by simpa using e))
        obtain ⟨c', t, e1, e2⟩ := hp 0 u rfl
        simp at e1
        subst e1
        exact ⟨t, e2⟩
  refine key _ _ (by simp [hs]) fun j v e => ?_
  obtain ⟨c, u, e1, e2⟩ := ha j v (by simpa using e)
  exact ⟨c, u, by simpa using e1, e2⟩
theorem call_list_s (hc : X.calm = true) : CallR X (.type "list") (fun xs H Q => ∃ z, xs = [.str z] ∧ z.length ≤ sizeLine ∧ ∀ l, H l = none → Q (.ref l) (upd H l (.lst (signsV z)))) := by
  intro pins s σ H xs us Q I r h
  obtain ⟨z, rfl, hz, q⟩ := h
  obtain ⟨u, rfl, t, rfl⟩ := vals1 r
  refine PySem.call_list_str (I.ok.hd hc) z t (fun h' tk acc c kp e hi => ?_) (by simpa [Str.length] using hz)
  refine ⟨.ref s.heap.objs.size, _, I.laid (t' := tk) kp (Nat.le_refl _) (show ObjOk X.prog X.w _ h' _ (.lst (signsV z)) from ⟨by simpa [signsV, Str.length] using hz, acc.toList, c, signs_vals hi, by simpa using e⟩), rfl, q _ (I.hok.fresh (Nat.le_refl _))⟩
theorem call_tuple_s (hc : X.calm = true) : CallR X (.type "tuple") (fun xs H Q => ∃ z, xs = [.str z] ∧ z.length ≤ sizeLine ∧ ∀ l, H l = none → Q (.ref l) (upd H l (.tup (signsV z)))) := by
  intro pins s σ H xs us Q I r h
  obtain ⟨z, rfl, hz, q⟩ := h
  obtain ⟨u, rfl, t, rfl⟩ := vals1 r
  refine PySem.call_tuple_str (I.ok.hd hc) z t (fun h' tk acc kp hi => ?_) (by simpa [Str.length] using hz)
  have I1 : Inv X pins σ H { s with heap := h', toks := tk } := I.kept kp
  have I2 : Inv X pins σ (upd H h'.objs.size (.tup (signsV z))) { s with heap := h'.push { cls := .type "tuple", data := .seq acc }, toks := tk } :=
    I1.laid (t' := tk) (fun b o e => Heap.get?_push_of_some _ e) (Nat.le_refl _) (show ObjOk X.prog X.w _ _ _ (.tup (signsV z)) from ⟨by simpa [signsV, Str.length] using hz, acc.toList, signs_vals hi, by simpa using IsTup.new h' acc⟩)
  exact ⟨.ref h'.objs.size, _, I2, rfl, q _ (I1.hok.fresh (Nat.le_refl _))⟩
end
def Its (x : Str) : It := ⟨fun i _ => i < x.cps.size, fun i H v H' => H' = H ∧ ∃ c, x.cps.toList[i]? = some c ∧ v = .str ⟨#[c]⟩, fun i _ => i = x.cps.size⟩
theorem turn_str {P : Program} {w : World} {K : PySem.W.Frag} {tg : Expr} (it : Addr) (x : Str) (t : Tok) (ty : String)
    (hty : ["enumerate", "zip", "dict_itemiterator", "dict_reverseitemiterator", "odict_iterator", "itertools.zip_longest", "itertools.pairwise"].contains ty = false)
    (W : ∀ A' : Around, A'.handled = none → Walks P w A' it [it] [it] x.cps.size (SignAt x) (fun i h => h.IsStrIter it ty x t i))
    (slf : ∀ (A : Around) (i : Nat) (s : Shared) (Q : Value → Shared → Prop) (E : Value → Shared → Prop), s.heap.IsStrIter it ty x t i → Q (.ref it) s → wpAny (model P w) A (pyIter (.ref it)) Q E s) :
    Turn P w K tg (Its x) [it] it (fun i h => h.IsStrIter it ty x t i) where
  mem := by simp
  obj := fun i h st b hb => by
    have e : b = it := by simpa using hb
    subst e
    obtain ⟨o, e, c, d⟩ := st
    exact ⟨o, e, fun v z => by rw [d] at z; cases z⟩
  keep := fun i h h' st k => by
    obtain ⟨o, e, c, d⟩ := st
    exact ⟨o, k it (by simp) o e, c, d⟩
  item := by
    intro X hP hw hK hc i pins s σ H E I hf st hg
    subst hP hw hK
    obtain ⟨f0, f1, f2, f3, f4, f5⟩ := hf it (by simp)
    refine (W X.A (I.ok.hd hc)).item i s _ _ hg st fun v h' tk hv st' kk => ?_
    obtain ⟨c, u, hx, rfl⟩ := hv
    have I1 : Inv X pins σ H { s with heap := h', toks := tk } := I.turned (fun b o hb e => kk b o (by simpa using hb) e) f0 f1 f3 f4 f5
    obtain ⟨o, e, oc, d⟩ := id st'
    exact ⟨_, rfl, go_of (s := { s with heap := h', toks := tk }) e oc d hty ⟨.str ⟨#[c]⟩, H, I1, ⟨_, rfl⟩, ⟨rfl, c, by simpa using hx, rfl⟩, st', fun b hb => (hf b hb).1⟩⟩
  done := by
    intro X hP hw hK hc i pins s σ H E I hf st hg
    subst hP hw hK
    obtain ⟨f0, f1, f2, f3, f4, f5⟩ := hf it (by simp)
    have hg' : i = x.cps.size := hg
    subst hg'
    exact (W X.A (I.ok.hd hc)).done s _ _ st fun h' tk eb => ⟨rfl, I.turned (fun b o hb e => eb b o (by simpa using hb) e) f0 f1 f3 f4 f5⟩
  self := slf
section
variable {X : Cx} {tg : Expr}
def iStr (tl : TE) : TI := fun σ H R => tl σ H fun x H1 => ∃ z, x = .str z ∧ R (Its z) H1
theorem pi_str {l : Expr} {tl : TE} (hl : PE X l tl) : PI X tg l (iStr tl) := by
  intro pins s σ H R I h
  refine thn (hl pins s σ H _ I h) fun v s1 ⟨x, H1, I1, r1, q1⟩ => ?_
  obtain ⟨z, e, q⟩ := q1
  subst e
  obtain ⟨t, rfl⟩ := r1
  have fp : ∀ b ∈ [s1.heap.objs.size], FpOk X pins H1 b := fun b hb => by
    have e : b = s1.heap.objs.size := by simpa using hb
    subst e
    exact I1.fpOk (Nat.le_refl _) (I1.hok.fresh (Nat.le_refl _))
  cases ha : z.cps.all (· < 128)
  · exact wpAny_pyIter_wide ha ⟨s1.heap.objs.size, [s1.heap.objs.size], _, _, H1, rfl, I1.kept (t' := s1.toks) fun b o e => Heap.get?_push_of_some _ e,
      turn_str _ z t "str_iterator" (by decide) (fun A' hA => Walks.strWide hA _ z t) (fun _ _ _ _ _ st h => wpAny_pyIter_striter_wide st h), ⟨_, Heap.get?_push_size _ rfl, rfl, rfl⟩, fp, q⟩
  · exact wpAny_pyIter_ascii ha ⟨s1.heap.objs.size, [s1.heap.objs.size], _, _, H1, rfl, I1.kept (t' := s1.toks) fun b o e => Heap.get?_push_of_some _ e,
      turn_str _ z t "str_ascii_iterator" (by decide) (fun A' hA => Walks.strAscii hA _ z t) (fun _ _ _ _ _ st h => wpAny_pyIter_striter_ascii st h), ⟨_, Heap.get?_push_size _ rfl, rfl, rfl⟩, fp, q⟩
end
end L2
set_option Elab.async false
set_option linter.all false
set_option maxRecDepth 100000
set_option maxHeartbeats 4000000
namespace L2
open PySem PySem.Spec PyProof.Rows
def cxC (X : Cx) (N : List Str) (scope : Scope) (cl : List (Str × Addr)) (C : Addr) (fp : List Addr) (s : Shared) (H : Hp) : Cx where
  prog := X.prog
  w := X.w
  K := X.K
  mg := X.mg
  base := X.base
  A := X.A
  N := N
  s₀ := s
  H₀ := H
  env := compEnvC scope cl C X.env
  outer := X.stack
  stack := X.stack
  ex := fp
  fn := fun _ => false
  calm := X.calm
  pn := []
  xe := fun _ _ => False
structure CSc (X : Cx) (scope : Scope) (cl : List (Str × Addr)) (ts fr : List Str) (ix : List Nat) : Prop where
  clos : closureFor scope X.env = pure cl
  kind : scope.kind = .function
  nocell : ∀ y ∈ scope.names, y.2 ≠ .cell
  names : ∀ y ∈ scope.names, y.2 = .local → scope.names.lookup y.1 = some .local
  sub : ∀ y c, cl.lookup y = some c → X.env.cells.lookup y = some c
  has : ∀ y, ((relabel scope X.env).names.lookup y = some .cell ∨ (relabel scope X.env).names.lookup y = some .free) → ∃ c, cl.lookup y = some c
  nofn : ∀ y ∈ ts, (relabel scope X.env).names.lookup y = some .local
  len : ix.length = fr.length
  vis : ∀ (j : Nat) (y : Str), fr[j]? = some y → ∃ i : Nat, ix[j]? = some i ∧ X.N[i]? = some y ∧ (X.env.kindOf y = some .cell ∨ X.env.kindOf y = some .free) ∧ ((relabel scope X.env).names.lookup y = some .cell ∨ (relabel scope X.env).names.lookup y = some .free)
def Ext (a b : St) : Prop := b.length = a.length ∧ ∀ (i : Nat) v, a[i]? = some (some v) → b[i]? = some (some v)
def compSt (nt : Nat) (ix : List Nat) (σ : St) : St := List.replicate nt none ++ ix.map fun i => (σ[i]?).join
def compW (J : It) (s0 : St) (g : TG) (te : TE) (Q : VK) (H1 : Hp) : Prop := ∃ W : Nat → Nat → List V → Hp → Prop, (∃ m, W 0 m [] H1) ∧ ∀ i m ys H, W i m ys H →
  (J.stop i H ∧ ∀ p, H p = none → Q (.ref p) (upd H p (.lst ys))) ∨
  (J.go i H ∧ ys.length < sizeLine ∧ ∀ x H', J.yld i H x H' → g x s0 H' fun σ2 H2 => Ext s0 σ2 ∧ te σ2 H2 fun y H3 => ∃ m', m' < m ∧ W (i + 1) m' (ys ++ [y]) H3)
def tComp (wi : TI) (s0 : St → St) (g : TG) (te : TE) : TE := fun σ H Q => wi σ H fun J H1 => compW J (s0 σ) g te Q H1
theorem compLoop1 {prog : Program} {w : World} {A : Around} {R : Result → Shared → Prop} {s : Shared} {elt target iter : Expr} {scope : Scope} {pos : Pos} {it acc : Value} {env : Env} (J : Nat → Shared → Prop)
    (step : ∀ m z, J m z → wpAny (model prog w) A (pyNext it) (fun got z1 => match got with
      | none => R (.ok .next) z1
      | some v => wpAny (model prog w) A (letOwnedTupleGo target it v) (fun _ z2 => wpAny (model prog w) A (assign target env v) (fun _ z3 => wpAny (model prog w) A (eval elt env) (fun x z4 =>
          wpAny (model prog w) A (call (.builtin "list.append") [acc, x]) (fun _ z5 => ∃ m', m' < m ∧ J m' z5) (fun _ _ => False) z4)
          (fun _ _ => False) z3) (fun _ _ => False) z2) (fun _ _ => False) z1) (fun _ _ => False) z)
    (m : Nat) (j0 : J m s) : codeAny (model prog w) A (.compLoop (.ListComp elt [⟨target, iter, [], 0⟩] scope pos) 0 it acc env) R s := by
  refine codeAny_loop rfl J (fun m z hj => (wpAny_noted ?_ : wpAny _ _ ((compTurn (.ListComp elt [⟨target, iter, [], 0⟩] scope pos) 0 it acc env).onRaise _) _ _ z)) m j0
  rw [compTurn_list1]
  refine wpAny_bind (wpAny_standAt (wpAny_bind (wpAny_mono (step m z hj) (fun got z1 h1 => ?_) fun _ _ no => no.elim)))
  match got, h1 with
  | none, h1 => exact wpAny_pure h1
  | some v, h1 =>
    refine wpAny_bind (wpAny_mono h1 (fun _ z2 h2 => wpAny_bind (wpAny_mono h2 (fun _ z3 h3 => ?_) fun _ _ no => no.elim)) fun _ _ no => no.elim)
    refine wpAny_bind (wpAny_bind (wpAny_mono h3 (fun x z4 h4 => ?_) fun _ _ no => no.elim))
    exact wpAny_bind (wpAny_mono h4 (fun _ z5 h5 => wpAny_pure (wpAny_pure ⟨rfl, h5⟩)) fun _ _ no => no.elim)
section
variable {X : Cx}
theorem cxC_ok {pins : List (Addr × Obj)} {σ : St} {H : Hp} {s : Shared} {scope : Scope} {cl : List (Str × Addr)} {ts fr : List Str} {ix : List Nat} {C : Addr} {fp : List Addr} (S : CSc X scope cl ts fr ix) (I : Inv X pins σ H s)
    (hf : ∀ b ∈ fp, FpOk X pins H b) (hb : ∀ b ∈ fp, b < s.heap.objs.size) (hC : s.heap.objs.size ≤ C) : (cxC X (ts ++ fr) scope cl C fp s H).Ok where
  mod := I.ok.mod
  kind := S.kind
  glob := I.ok.glob
  blt := I.ok.blt
  above := hC
  inj := fun x y c h1 h2 => I.ok.inj x y c (S.sub x c h1) (S.sub y c h2)
  has := S.has
  cab := fun _ _ z => nomatch z
  hd := I.ok.hd
  frames := I.ok.frames
  stk := .inl rfl
  exf := fun b hb' => ⟨Nat.ne_of_lt (Nat.lt_of_lt_of_le (hb b hb') hC), fun x c e => (hf b hb').2.2.2.2.1 x c (S.sub x c e)⟩
  bs := fun b o e => I.bs b o e
  bsz := Nat.le_trans I.ok.bsz I.sz
  noex := fun b o e hb' => by
    rcases (hf b hb').2.2.2.1 with z | z
    · exact I.ok.noex b o e z
    · exact absurd (Nat.lt_of_lt_of_le (Heap.lt_size e) (Nat.le_trans I.ok.bsz z)) (Nat.lt_irrefl _)
  exfs := fun b hb' z => by
    rcases List.mem_cons.mp (I.stkSub b z) with e | e
    · exact (hf b hb').2.1 e
    · exact (hf b hb').2.2.1 e
  funs := I.stack
  frf := fun b hb' => I.stkFree b hb'
theorem compSt_len {nt : Nat} {ix : List Nat} {σ : St} : (compSt nt ix σ).length = nt + ix.length := by
  unfold compSt; rw [List.length_append, List.length_replicate, List.length_map]
theorem cxC_inv {pins : List (Addr × Obj)} {σ : St} {H : Hp} {s s4 : Shared} {scope : Scope} {cl : List (Str × Addr)} {ts fr : List Str} {ix : List Nat} {C : Addr} {fp : List Addr} {m : Str → Option Value} (S : CSc X scope cl ts fr ix) (I : Inv X pins σ H s)
    (hf : ∀ b ∈ fp, FpOk X pins H b) (hb : ∀ b ∈ fp, b < s.heap.objs.size) (hC : s.heap.objs.size ≤ C)
    (k : ∀ b o, s.heap.get? b = some o → s4.heap.get? b = some o) (hn : s4.heap.Ns C m) (ho : s4.os = s.os) (hg : s4.gens = s.gens) :
    Inv (cxC X (ts ++ fr) scope cl C fp s H) [] (compSt ts.length ix σ) H s4 where
  ok := cxC_ok S I hf hb hC
  os := ho
  bare := by rw [hg]; exact I.bare
  base := Un.kept k
  loc := by
    refine ⟨m, hn, fun i x v e1 e2 e3 => ?_⟩
    have e1 : (ts ++ fr)[i]? = some x := e1
    by_cases hi : i < ts.length
    · unfold compSt at e2
      rw [List.getElem?_append_left (by simpa using hi), List.getElem?_replicate, if_pos hi] at e2
      cases e2
    · rw [List.getElem?_append_right (by omega)] at e1
      unfold compSt at e2
      rw [List.getElem?_append_right (by simpa using hi), List.length_replicate, List.getElem?_map] at e2
      obtain ⟨j, h1, h2, h3, h4⟩ := S.vis _ x e1
      rw [h1] at e2
      have e2' : (σ[j]?).join = some v := Option.some.inj e2
      have e5 : σ[j]? = some (some v) := by
        cases q : σ[j]? with
        | none => rw [q] at e2'; cases e2'
        | some o => rw [q] at e2'; simp at e2'; rw [e2']
      obtain ⟨m0, _, hl⟩ := I.loc
      have vis : Vis X.env.scope x := h3.elim (fun z => .inr (.inl z)) fun z => .inr (.inr z)
      obtain ⟨u, ru, l⟩ := hl j x v h2 e5 vis
      refine ⟨u, ru, ?_⟩
      rcases l with ⟨z, _⟩ | ⟨_, c, hc, hcell⟩
      · rcases h3 with h3 | h3 <;> rw [h3] at z <;> cases z
      · obtain ⟨c', hc'⟩ := S.has x h4
        have e6 : c' = c := Option.some.inj ((S.sub x c' hc').symm.trans hc)
        subst e6
        obtain ⟨o, ho, hd⟩ := hcell
        exact .inr ⟨h4, c', hc', o, k _ _ ho, hd⟩
  cell := fun x c e => by
    obtain ⟨v, o, ho, hd⟩ := I.cell x c (S.sub x c e)
    exact ⟨v, o, k _ _ ho, hd⟩
  free := I.hok.fresh hC
  freeC := fun x c e => I.freeC x c (S.sub x c e)
  pin := fun p hp => absurd (show p ∈ ([] : List (Addr × Obj)) from hp) (by simp)
  hok := I.hok.kept k
  len := by
    rw [compSt_len]
    show _ = (ts ++ fr).length
    rw [List.length_append, S.len]
theorem Inv.unpinned' {pins : List (Addr × Obj)} {σ : St} {H : Hp} {s : Shared} (I : Inv X pins σ H s) : Inv X [] σ H s := I.pins_of fun _ hp => nomatch hp
theorem comp_back {pins : List (Addr × Obj)} {σ σ' : St} {H H' : Hp} {s s' : Shared} {scope : Scope} {cl : List (Str × Addr)} {N : List Str} {C acc : Addr} {fp : List Addr} {h' : Heap} {ys : List V} {its : List Value} {n : Nat} (I : Inv X pins σ H s)
    (hf : ∀ b ∈ fp, FpOk X pins H b) (hC : s.heap.objs.size ≤ C) (hacc : s.heap.objs.size ≤ acc) (hCa : C ≠ acc)
    (J : Inv (cxC X N scope cl C fp s H) [] σ' H' s') (hn : H' acc = none) (ha : s'.heap.get? acc = some { cls := .type "list", data := .seq its.toArray n }) (rv : Vals ys its) (hz : ys.length ≤ sizeLine) (sb : Heap.SameBut C s'.heap h') :
    Inv X pins σ (upd H' acc (.lst ys)) { s' with heap := h' } := by
  have k : ∀ b o, b ≠ C → s'.heap.get? b = some o → h'.get? b = some o := fun b o hb e => sb.extBut b o hb e
  have old : ∀ b o, s.heap.get? b = some o → b ≠ C ∧ b ≠ acc := fun b o e => ⟨Nat.ne_of_lt (Nat.lt_of_lt_of_le (Heap.lt_size e) hC), Nat.ne_of_lt (Nat.lt_of_lt_of_le (Heap.lt_size e) hacc)⟩
  have u0 : Un (frs X.stack) fp H H' s.heap s'.heap := J.base
  have fC : H' C = none := J.free
  have u : Un (frs X.stack) fp H (upd H' acc (.lst ys)) s.heap h' := by
    refine ⟨fun b o e n' hb hx => k b o (old b o e).1 (u0.keep b o e n' hb hx), fun b o e n' hb hx => ?_, fun b o e n' hx => ?_, fun b o e hx => ?_, fun b xs e => ?_, fun b o v e => ?_, fun b ps e => ?_⟩
    · obtain ⟨sl, e1⟩ := u0.slot b o e n' hb hx
      exact ⟨sl, k b _ (old b o e).1 e1⟩
    · rw [upd_ne (old b o e).2]; exact u0.free b o e n' hx
    · obtain ⟨o', e1⟩ := u0.there b o e hx
      exact ⟨o', k b _ (old b o e).1 e1⟩
    · rw [upd_ne (ne_of_none (u0.tups b xs e) hn)]; exact u0.tups b xs e
    · rw [upd_ne (ne_of_none (u0.frzs b o v e) hn)]; exact u0.frzs b o v e
    · obtain ⟨more, e1⟩ := u0.tbls b ps e
      exact ⟨more, by rw [upd_ne (ne_of_none e1 hn)]; exact e1⟩
  have hok : HOk X.prog X.w (upd H' acc (.lst ys)) h' := fun b o e => by
    by_cases hb : b = acc
    · subst hb; rw [upd_same] at e; cases e
      exact ⟨hz, its, n, rv, k _ _ (Ne.symm hCa) ha⟩
    · rw [upd_ne hb] at e
      refine (J.hok b o e).stay (fun c v hc q => k c v ?_ q) (fun c q => by rw [upd_ne (ne_of_none q hn)]; exact q) fun c xs q => by rw [upd_ne (ne_of_none q hn)]; exact q
      rcases hc with z | z
      · rw [z]; exact ne_of_none e fC
      · exact ne_of_none z fC
  have J' := I.call (g' := s'.gens) (t' := s'.toks) (d' := s'.drawn) (ch := fp) u hok J.bare fun b hb => ⟨(hf b hb).2.2.2.1, (hf b hb).2.1, (hf b hb).2.2.2.2.1, (hf b hb).2.2.2.2.2⟩
  have eo : s'.os = s.os := J.os
  obtain ⟨hp, g, d, t, o⟩ := s'
  have eo' : o = s.os := eo
  subst eo'
  exact J'
def CompFin (X : Cx) (pins : List (Addr × Obj)) (σ : St) (use : Option (Value → Sem Unit)) (Q : VK) (Qf : Value → Shared → Prop) : Prop :=
  ∀ (acc C : Addr) (s6 : Shared) (H6 : Hp) (m6 : Str → Option Value), s6.heap.Ns C m6 → FpOk X pins H6 C → (∀ h', Heap.SameBut C s6.heap h' → Inv X pins σ H6 { s6 with heap := h' }) → Q (.ref acc) H6 →
    compPost (model X.prog X.w) X.A X.xe use Qf (.ref acc) C (.ok .next) s6
theorem fin_none {pins : List (Addr × Obj)} {σ : St} {Q : VK} : CompFin X pins σ none Q (EP X pins σ Q) := fun acc C s6 H6 m6 hn _ k q => ⟨m6, hn, fun h' sb => ⟨.ref acc, H6, k h' sb, rfl, q⟩⟩
theorem fin_name {pins : List (Addr × Obj)} {σ : St} {D : Ends} {i : Nat} {x : Str} {pos' : Pos} (hN : X.N.Nodup) (hi : X.N[i]? = some x) (hx : Loc X.env.scope x) (hf : X.fn x = true ∨ X.env.scope.names.lookup x = some .local) :
    CompFin X pins σ (some (assign (.Name x pos') X.env)) (fun v H1 => gName i v σ H1 D.nx) (fun _ s' => SP X pins D .next s') := by
  intro acc C s6 H6 m6 hn fp k q
  obtain ⟨f1, f2, f3, f4, f5, f6⟩ := fp
  have I6 : Inv X pins σ H6 s6 := k s6.heap (Heap.SameBut.refl _ _)
  refine wpAny_assign_Name (store_ok2 (v := .ref acc) I6 hN hi hx rfl (fun s' I' ⟨a, sb, ha⟩ => ⟨m6, hn.sameBut sb ?_, fun h' sb' => ⟨_, H6, I'.turned (t' := s'.toks) (it := C) (fun b o hb e => sb'.extBut b o hb e) f1 f2 f4 f5 f6, q⟩⟩) hf)
  rcases ha with ha | ha
  · rw [ha]; exact f2
  · exact fun z => f5 x a ha z.symm
theorem lcomp_gen {elt tg iter : Expr} {scope : Scope} {pos ppos : Pos} {cl : List (Str × Addr)} {ts fr : List Str} {ix : List Nat} {wi : TI} {g : TG} {te : TE} (hc : X.calm = true) (S : CSc X scope cl ts fr ix) (hi : PI X tg iter wi)
    (hg : ∀ C fp s H, PG (cxC X (ts ++ fr) scope cl C fp s H) tg g) (he : ∀ C fp s H, PE (cxC X (ts ++ fr) scope cl C fp s H) elt te) (hs : ∀ x, foldedSetIterable iter X.env x = pure x)
    (use : Option (Value → Sem Unit)) {pins : List (Addr × Obj)} {s : Shared} {σ : St} {H : Hp} {Q : VK} {Qf : Value → Shared → Prop} (I : Inv X pins σ H s) (h : tComp wi (compSt ts.length ix) g te σ H Q) (fin : CompFin X pins σ use Q Qf) :
    wpAny (model X.prog X.w) X.A (comprehension (.ListComp elt [⟨tg, iter, [], 0⟩] scope pos) scope X.env ppos (newList []) false (eval iter X.env) use) Qf X.xe s := by
  refine wpAny_comprehension_free (use := use) rfl hs S.clos S.kind S.names (thn (hi pins s σ H _ I h) fun v s1 h1 => thn h1 fun itv s2 h2 => ?_)
  obtain ⟨it, fp, tn, J, H2, e, I2, T, st2, f2, W, ⟨m0, w0⟩, turn⟩ := h2
  subst e
  have hob : ∀ b ∈ fp, b < s2.heap.objs.size := fun b hb => let ⟨o, e, _⟩ := T.obj _ _ st2 b hb; Heap.lt_size e
  refine wpAny_newObj_type (wpAny_newFunctionEnv S.nocell (by intro y hy; simp at hy) (fun h4 hns4 hsb4 => ?_) S.kind)
  dsimp only at hns4 hsb4 ⊢
  generalize hH2 : s2.heap.push { cls := .type "list", dict := none, data := .seq ([] : List Value).toArray } = G at hns4 hsb4 ⊢
  have hCs : G.objs.size = s2.heap.objs.size + 1 := by rw [← hH2, Heap.size_push]
  have hCle : s2.heap.objs.size ≤ G.objs.size := by omega
  have hne : G.objs.size ≠ s2.heap.objs.size := by omega
  have old : ∀ b o, s2.heap.get? b = some o → h4.get? b = some o := fun b o e => by
    have hlt := Heap.lt_size e
    exact hsb4.extBut b o (Nat.ne_of_lt (Nat.lt_of_lt_of_le hlt hCle)) (Heap.get?_push_of_some _ (hH2 ▸ Heap.get?_push_of_some _ e))
  have hacc : h4.get? s2.heap.objs.size = some { cls := .type "list", data := .seq ([] : List Value).toArray 0 } :=
    hsb4.extBut _ _ (Ne.symm hne) (Heap.get?_push_of_some _ (hH2 ▸ Heap.get?_push_size _ rfl))
  have K0 : Inv (cxC X (ts ++ fr) scope cl G.objs.size fp s2 H2) [] (compSt ts.length ix σ) H2 { s2 with heap := h4, toks := s2.toks + ([] : List (Str × Value)).length } :=
    cxC_inv S I2 f2 hob hCle old hns4 rfl rfl
  have st4 : tn 0 h4 := T.keep _ _ _ st2 fun b _ o e => old b o e
  have accF : s2.heap.objs.size ∉ fp := fun z => Nat.lt_irrefl _ (hob _ z)
  have stat : ∀ {H' : Hp}, (∀ b ∈ fp, H' b = none) → ∀ b ∈ fp, FpOk (cxC X (ts ++ fr) scope cl G.objs.size fp s2 H2) [] H' b := fun hn b hb =>
    ⟨hn b hb, fun z => by have h1 := hob b hb; have z' : b = G.objs.size := z; exact Nat.ne_of_lt (Nat.lt_of_lt_of_le h1 hCle) z', fun z => (cxC_ok S I2 f2 hob hCle).exfs b hb z, .inl hb, fun x c e => (f2 b hb).2.2.2.2.1 x c (S.sub x c e), fun p hp => absurd (show p ∈ ([] : List (Addr × Obj)) from hp) (by simp)⟩
  have statA : ∀ {H' : Hp}, H' s2.heap.objs.size = none → FpOk (cxC X (ts ++ fr) scope cl G.objs.size fp s2 H2) [] H' s2.heap.objs.size := fun hn =>
    ⟨hn, fun z => hne (show G.objs.size = s2.heap.objs.size from z.symm), fun z => by
      obtain ⟨_, o, ho, _⟩ := (cxC_ok S I2 f2 hob hCle).funs.mem z
      exact Nat.lt_irrefl _ (Heap.lt_size ho), .inr (Nat.le_refl _), fun x c e z => by
      obtain ⟨v, o, ho, _⟩ := I2.cell x c (S.sub x c e)
      rw [z] at ho
      exact Nat.lt_irrefl _ (Heap.lt_size ho), fun p hp => absurd (show p ∈ ([] : List (Addr × Obj)) from hp) (by simp)⟩
  have loop : ∀ s4 : Shared, s4 = { s2 with heap := h4, toks := s2.toks + ([] : List (Str × Value)).length } →
      codeAny (model X.prog X.w) X.A (.compLoop (.ListComp elt [⟨tg, iter, [], 0⟩] scope pos) 0 (.ref it) (.ref s2.heap.objs.size) (compEnvC scope cl G.objs.size X.env))
        (compPost (model X.prog X.w) X.A X.xe use Qf (.ref s2.heap.objs.size) G.objs.size) s4 := by
    rintro s4 rfl
    refine compLoop1 (fun n s' => ∃ i σ' H' ys its k, Inv (cxC X (ts ++ fr) scope cl G.objs.size fp s2 H2) [] σ' H' s' ∧ Ext (compSt ts.length ix σ) σ' ∧ tn i s'.heap ∧ (∀ b ∈ fp, H' b = none) ∧ H' s2.heap.objs.size = none ∧
      s'.heap.get? s2.heap.objs.size = some { cls := .type "list", data := .seq its.toArray k } ∧ Vals ys its ∧ ys.length ≤ sizeLine ∧ W i n ys H') ?_ m0
      ⟨0, _, H2, [], [], 0, K0, ⟨rfl, fun _ _ z => z⟩, st4, fun b hb => (f2 b hb).1, I2.hok.fresh (Nat.le_refl _), hacc, .nil, Nat.zero_le _, w0⟩
    rintro n s5 ⟨i, σ5, H5, ys, its, k5, I5, x5, st5, fr5, fa5, ac5, rv5, hz5, w5⟩
    have I5' : Inv (cxC X (ts ++ fr) scope cl G.objs.size fp s2 H2) [] (compSt ts.length ix σ) H5 s5 := I5.weak x5.1.symm x5.2
    rcases turn i n ys H5 w5 with ⟨stop, qn⟩ | ⟨go, hlt, step⟩
    · refine thn (T.done (cxC X (ts ++ fr) scope cl G.objs.size fp s2 H2) rfl rfl rfl hc i [(s2.heap.objs.size, { cls := .type "list", data := .seq its.toArray k5 })] s5 _ H5 _ (I5'.pins_of fun p hp => ?_) (fun b hb => ?_) st5 stop) fun r s6 ⟨hr, I6⟩ => ?_
      · have e : p = (s2.heap.objs.size, { cls := .type "list", data := .seq its.toArray k5 }) := by simpa using hp
        subst e
        obtain ⟨a0, a1, a2, _⟩ := statA fa5
        exact ⟨ac5, a0, a1, a2, fun v z => by cases z⟩
      · obtain ⟨b0, b1, b2, b3, b4, b5⟩ := stat fr5 b hb
        refine ⟨b0, b1, b2, b3, b4, fun p hp => ?_⟩
        have e : p = (s2.heap.objs.size, { cls := .type "list", data := .seq its.toArray k5 }) := by
          have hp' : p ∈ [(s2.heap.objs.size, _)] := hp
          simpa using hp'
        subst e
        exact fun z => accF (by have z' : s2.heap.objs.size = b := z; rw [z']; exact hb)
      · subst hr
        have e6 := (I6.pin (s2.heap.objs.size, { cls := .type "list", data := .seq its.toArray k5 }) (by show _ ∈ [] ++ [_]; simp)).1
        obtain ⟨m6, hn6, _⟩ := I6.loc
        exact fin _ _ s6 _ m6 hn6 (I2.fpOk hCle (by rw [upd_ne hne]; exact I6.free)) (fun h' sb => comp_back I2 f2 hCle (Nat.le_refl _) hne I6.unpinned' fa5 e6 rv5 hz5 sb) (qn _ fa5)
    · refine thn (T.item (cxC X (ts ++ fr) scope cl G.objs.size fp s2 H2) rfl rfl rfl hc i [(s2.heap.objs.size, { cls := .type "list", data := .seq its.toArray k5 })] s5 _ H5 _ (I5'.pins_of fun p hp => ?_) (fun b hb => ?_) st5 go) fun r s6 ⟨u, hr, h6⟩ => ?_
      · have e : p = (s2.heap.objs.size, { cls := .type "list", data := .seq its.toArray k5 }) := by simpa using hp
        subst e
        obtain ⟨a0, a1, a2, _⟩ := statA fa5
        exact ⟨ac5, a0, a1, a2, fun v z => by cases z⟩
      · obtain ⟨b0, b1, b2, b3, b4, b5⟩ := stat fr5 b hb
        refine ⟨b0, b1, b2, b3, b4, fun p hp => ?_⟩
        have e : p = (s2.heap.objs.size, { cls := .type "list", data := .seq its.toArray k5 }) := by
          have hp' : p ∈ [(s2.heap.objs.size, _)] := hp
          simpa using hp'
        subst e
        exact fun z => accF (by have z' : s2.heap.objs.size = b := z; rw [z']; exact hb)
      · subst hr
        refine thn h6 fun _ s7 ⟨x, H7, I7, r7, y7, st7, fr7⟩ => ?_
        have fa7 : H7 s2.heap.objs.size = none := (I7.pin (s2.heap.objs.size, { cls := .type "list", data := .seq its.toArray k5 }) (by show _ ∈ [] ++ [_]; simp)).2.1
        have ac7 := (I7.pin (s2.heap.objs.size, { cls := .type "list", data := .seq its.toArray k5 }) (by show _ ∈ [] ++ [_]; simp)).1
        have I7' : Inv (cxC X (ts ++ fr) scope cl G.objs.size fp s2 H2) ([] ++ pinsAt (s2.heap.objs.size :: fp) s7.heap) (compSt ts.length ix σ) H7 s7 := by
          refine Inv.pinned I7.unpinned' (fun b hb => ?_) fun b hb => ?_
          · rcases List.mem_cons.mp hb with e | e
            · subst e; exact statA fa7
            · exact stat fr7 b e
          · rcases List.mem_cons.mp hb with e | e
            · subst e; exact ⟨_, ac7, fun v z => by cases z⟩
            · exact T.obj _ _ st7 b e
        refine thn (hg G.objs.size fp s2 H2 _ s7 _ H7 x u _ I7' r7 (step x H7 y7)) fun _ s8 ⟨σ8, H8, I8, x8, q8⟩ => ?_
        refine thn (he G.objs.size fp s2 H2 _ s8 _ H8 _ I8 q8) fun yv s9 ⟨y, H9, I9, r9, m', hm', w9⟩ => ?_
        obtain ⟨ac9, fa9, _⟩ := I9.pin (s2.heap.objs.size, { cls := .type "list", data := .seq its.toArray k5 }) (by show _ ∈ [] ++ ([] ++ _); simp; exact mem_pinsAt List.mem_cons_self ac7)
        have keep9 : ∀ b ∈ fp, ∀ o, s7.heap.get? b = some o → s9.heap.get? b = some o ∧ H9 b = none := fun b hb o e => by
          obtain ⟨z1, z2, _⟩ := I9.pin (b, o) (by show _ ∈ [] ++ ([] ++ _); simp; exact mem_pinsAt (List.mem_cons_of_mem _ hb) e)
          exact ⟨z1, z2⟩
        have hl := rv5.length
        refine call_meets F.slot_list_append ⟨_, ac9, rfl⟩ F.entry_list_append (F.args_list_append_2 _ _) (PySem.list_append s2.heap.objs.size its.toArray k5 yv (by rw [List.size_toArray]; omega)) ⟨ac9, ?_⟩
        have q := PySem.IsL.update ac9 (fun a => a.push yv)
        have qo : ∀ b o, b ≠ s2.heap.objs.size → s9.heap.get? b = some o → (s9.heap.update s2.heap.objs.size (Obj.mapSeq (fun a => a.push yv))).get? b = some o := fun b o hb e => (Heap.get?_update_other s9.heap _ (Ne.symm hb)).trans e
        have q' : ∃ k, (s9.heap.update s2.heap.objs.size (Obj.mapSeq (fun a => a.push yv))).get? s2.heap.objs.size = some { cls := .type "list", data := .seq (its ++ [yv]).toArray k } := ⟨_, by rw [q]; simp; rfl⟩
        obtain ⟨k9, q9⟩ := q'
        obtain ⟨a0, a1, a2, a3, a4, a5⟩ := statA (show H9 s2.heap.objs.size = none from fa9)
        refine ⟨m', hm', i + 1, σ8, H9, ys ++ [y], its ++ [yv], k9, (I9.unpinned').turned qo a0 a1 a3 a4 a5, x8, ?_, ?_, fa9, q9, rv5.append (.cons r9 .nil), ?_, w9⟩
        · refine T.keep _ _ _ st7 fun b hb o e => qo b o (fun z => accF (z ▸ hb)) (keep9 b hb o e).1
        · intro b hb
          obtain ⟨o, e, _⟩ := T.obj _ _ st7 b hb
          exact (keep9 b hb o e).2
        · rw [List.length_append, List.length_singleton]; omega
  exact codeAny_compStart_list (loop _ rfl) (T.self _ 0 _ _ _ st4 (loop _ rfl))
theorem pe_lcomp {elt tg iter : Expr} {scope : Scope} {pos : Pos} {cl : List (Str × Addr)} {ts fr : List Str} {ix : List Nat} {wi : TI} {g : TG} {te : TE} (hc : X.calm = true) (S : CSc X scope cl ts fr ix) (hi : PI X tg iter wi)
    (hg : ∀ C fp s H, PG (cxC X (ts ++ fr) scope cl C fp s H) tg g) (he : ∀ C fp s H, PE (cxC X (ts ++ fr) scope cl C fp s H) elt te)
    (hs : ∀ x, foldedSetIterable iter X.env x = pure x := by intro _; rfl) :
    PE X (.ListComp elt [⟨tg, iter, [], 0⟩] scope pos) (tComp wi (compSt ts.length ix) g te) := by
  intro pins s σ H Q I h
  rw [eval_ListComp]
  exact lcomp_gen hc S hi hg he hs none I h fin_none
theorem ps_lcomp {elt tg iter : Expr} {scope : Scope} {pos : Pos} {cl : List (Str × Addr)} {ts fr : List Str} {ix : List Nat} {wi : TI} {g : TG} {te : TE} {i : Nat} {x : Str} {pos' spos : Pos} (hN : X.N.Nodup) (hi' : X.N[i]? = some x) (hx : Loc X.env.scope x) (hc : X.calm = true) (S : CSc X scope cl ts fr ix) (hi : PI X tg iter wi)
    (hg : ∀ C fp s H, PG (cxC X (ts ++ fr) scope cl C fp s H) tg g) (he : ∀ C fp s H, PE (cxC X (ts ++ fr) scope cl C fp s H) elt te)
    (hs : ∀ x, foldedSetIterable iter X.env x = pure x := by intro _; rfl) (hsw : swapsWith (.ListComp elt [⟨tg, iter, [], 0⟩] scope pos) (some (.Name x pos')) spos.line X.env = pure true := by rfl) (hf : X.fn x = true ∨ X.env.scope.names.lookup x = some .local := by first | exact .inl rfl | exact .inr rfl | assumption) :
    PS X (.Assign [.Name x pos'] (.ListComp elt [⟨tg, iter, [], 0⟩] scope pos) spos) (tAsg (tComp wi (compSt ts.length ix) g te) (gName i)) := by
  intro pins s σ H D I h
  rw [exec_Assign_Name_used _ _ _ _ hsw]
  refine wpAny_bind (wpAny_standAt (wpAny_bind ?_))
  refine wpAny_bind (wpAny_mono (lcomp_gen hc S hi hg he hs (some (assign (.Name x pos') X.env)) I h (fin_name hN hi' hx hf)) (fun _ s' hq => wpAny_pure (wpAny_pure hq)) fun _ _ e => e)
end
end L2
set_option Elab.async false
set_option linter.all false
set_option maxRecDepth 100000
set_option maxHeartbeats 4000000
namespace L2
open PySem PySem.Spec PyProof.Rows
section
variable {K : Type} [DecidableEq K]
end
section
variable {prog : Program} {w : World} {K : Type} [DecidableEq K] {knd : KeyKind prog w K} {A : Around} {R : Result → Shared → Prop}
end
section
variable {prog : Program} {w : World} {A : Around} {E : Value → Shared → Prop} {s : Shared}
end
section
variable {X : Cx}
end
end L2
set_option Elab.async false
set_option linter.all false
set_option maxRecDepth 100000
set_option maxHeartbeats 4000000
namespace L2
open PySem PySem.Spec
theorem bt_len : bootBuiltins "len" = some (.builtin "len") := PySem.boot_len
theorem bt_isinstance : bootBuiltins "isinstance" = some (.builtin "isinstance") := by first | exact PySem.boot_isinstance | exact PyProof.Rows.boot_isinstance
theorem bt_str : bootBuiltins "str" = some (.type "str") := by first | exact PySem.boot_str | exact PyProof.Rows.boot_str
theorem bt_all : bootBuiltins "all" = some (.builtin "all") := by first | exact PySem.boot_all | exact PyProof.Rows.boot_all
theorem bt_abs : bootBuiltins "abs" = some (.builtin "abs") := by first | exact PySem.boot_abs | exact PyProof.Rows.boot_abs
theorem bt_int : bootBuiltins "int" = some (.type "int") := by first | exact PySem.boot_int | exact PyProof.Rows.boot_int
theorem bt_list : bootBuiltins "list" = some (.type "list") := by first | exact PySem.boot_list | exact PyProof.Rows.boot_list
theorem bt_tuple : bootBuiltins "tuple" = some (.type "tuple") := by first | exact PySem.boot_tuple | exact PyProof.Rows.boot_tuple
structure Dn (P : Program) (w : World) (K : PySem.W.Frag) (mg : Str → Option Value) (base : Heap) (k : Nat) (x : Str) (ps : List Str) (sp : Sp) (f : Addr) (fd : FuncData) : Prop where
  ok : FnOk P w K mg base CX0 k f fd ps sp
  m : mg x = some (.ref f)
  kp : PySem.W.keepIn K (.ref f) = true
  b : Binds K fd ps []
theorem sLine : sizeLine = 16777216 := sizeLine_eq
theorem le_line {n : Nat} (h : n ≤ 16777216) : n ≤ sizeLine := by rw [sizeLine_eq]; exact h
end L2
namespace L2
open PySem PySem.Spec
theorem CSc.noFree {X : Cx} {scope : Scope} {ts : List Str} (kind : scope.kind = .function) (h : ∀ y ∈ scope.names, y.2 ≠ .cell ∧ y.2 ≠ .free) (names : ∀ y ∈ scope.names, y.2 = .local → scope.names.lookup y.1 = some .local)
    (ht : ∀ y ∈ ts, scope.names.lookup y = some .local) : CSc X scope [] ts [] [] := by
  have e : (relabel scope X.env).names = scope.names := by
    show scope.names.map _ = _
    refine map_eq_self fun y hy => ?_
    obtain ⟨n, k⟩ := y
    have : (k == NameKind.free) = false := by simpa using (h _ hy).2
    simp [this]
  refine ⟨closureFor_none fun y hy => (h y hy).2, kind, fun y hy => (h y hy).1, names, (fun _ _ z => nomatch z), fun y z => ?_, fun y hy => by rw [e]; exact ht y hy, rfl, (fun _ _ z => by simp at z)⟩
  rw [e] at z
  rcases z with z | z
  · exact absurd rfl (h _ (PySem.mem_of_lookup z)).1
  · exact absurd rfl (h _ (PySem.mem_of_lookup z)).2
theorem app_l (x y : Str) : (x ++ y).cps.toList = x.cps.toList ++ y.cps.toList := by
  show (x.cps ++ y.cps).toList = _
  simp
theorem cutL_to {α : Type} (xs : List α) (k : Nat) : cutL xs none (some (k : Int)) = xs.take k := by
  unfold cutL
  rw [HT.sIx_none, HT.sIx_nat, List.drop_zero, Nat.sub_zero]
  by_cases h : k ≤ xs.length
  · rw [Nat.min_eq_left h]
  · rw [Nat.min_eq_right (by omega), List.take_of_length_le (Nat.le_refl _), List.take_of_length_le (by omega)]
theorem cutL_from {α : Type} (xs : List α) (k : Nat) : cutL xs (some (k : Int)) none = xs.drop k := by
  unfold cutL
  rw [HT.sIx_none, HT.sIx_nat]
  by_cases h : k ≤ xs.length
  · rw [Nat.min_eq_left h, List.take_of_length_le (by rw [List.length_drop]; omega)]
  · rw [Nat.min_eq_right (by omega), List.drop_eq_nil_of_le (Nat.le_refl _), List.drop_eq_nil_of_le (by omega), List.take_nil]
end L2
set_option Elab.async false
set_option linter.all false
set_option maxRecDepth 100000
set_option maxHeartbeats 4000000
namespace L2
open PySem PySem.Spec PyProof.Rows
def compWIf (J : It) (s0 : St) (g : TG) (tc : TT) (te : TE) (Q : VK) (H1 : Hp) : Prop := ∃ W : Nat → Nat → List V → Hp → Prop, (∃ m, W 0 m [] H1) ∧ ∀ i m ys H, W i m ys H →
  (J.stop i H ∧ ∀ p, H p = none → Q (.ref p) (upd H p (.lst ys))) ∨
  (J.go i H ∧ ys.length < sizeLine ∧ ∀ x H', J.yld i H x H' → g x s0 H' fun σ2 H2 => Ext s0 σ2 ∧ tc σ2 H2 fun ok H2' => if ok = true then te σ2 H2' (fun y H3 => ∃ m', m' < m ∧ W (i + 1) m' (ys ++ [y]) H3) else ∃ m', m' < m ∧ W (i + 1) m' ys H2')
def tCompIf (wi : TI) (s0 : St → St) (g : TG) (tc : TT) (te : TE) : TE := fun σ H Q => wi σ H fun J H1 => compWIf J (s0 σ) g tc te Q H1
theorem compTurn_listIf (elt target iter cnd : Expr) (scope : Scope) (pos : Pos) (it acc : Value) (env : Env) :
    compTurn (.ListComp elt [⟨target, iter, [cnd], 0⟩] scope pos) 0 it acc env = (standAt iter.pos >>= fun _ => pyNext it >>= fun r => match r with
      | none => pure (.done .next)
      | some v => letOwnedTupleGo target it v >>= fun _ => assign target env v >>= fun _ => isTrue cnd env (eval cnd env) >>= fun ok =>
        (if ok = true then (eval elt env >>= fun x => call (.builtin "list.append") [acc, x] >>= fun _ => pure ()) else pure ()) >>= fun _ =>
          again (.compLoop (.ListComp elt [⟨target, iter, [cnd], 0⟩] scope pos) 0 it acc env)) := by
  first
    | rfl
    | (unfold compTurn; simp only [List.getElem?_cons_zero]; rfl)
    | (show (standAt iter.pos >>= fun _ => pyNext it >>= fun r => _) = _
       congr 1; funext _; congr 1; funext r
       cases r with
       | none => rfl
       | some v =>
         show (letOwnedTupleGo target it v >>= fun _ => assign target env v >>= fun _ => _) = (letOwnedTupleGo target it v >>= fun _ => assign target env v >>= fun _ => _)
         congr 1; funext _; congr 1; funext _
         simp
         congr 1; funext ok
         cases ok with
         | false => rw [if_neg Bool.false_ne_true, if_neg Bool.false_ne_true, pure_bind]
         | true =>
           rw [if_pos rfl, if_pos rfl, bind_assoc]
           congr 1; funext x
           rw [map_eq_pure_bind, bind_assoc]
           congr 1)
theorem compLoopIf {prog : Program} {w : World} {A : Around} {R : Result → Shared → Prop} {s : Shared} {elt target iter cnd : Expr} {scope : Scope} {pos : Pos} {it acc : Value} {env : Env} (J : Nat → Shared → Prop)
    (step : ∀ m z, J m z → wpAny (model prog w) A (pyNext it) (fun got z1 => match got with
      | none => R (.ok .next) z1
      | some v => wpAny (model prog w) A (letOwnedTupleGo target it v) (fun _ z2 => wpAny (model prog w) A (assign target env v) (fun _ z3 => wpAny (model prog w) A (isTrue cnd env (eval cnd env)) (fun ok z3' => if ok = true then wpAny (model prog w) A (eval elt env) (fun x z4 =>
          wpAny (model prog w) A (call (.builtin "list.append") [acc, x]) (fun _ z5 => ∃ m', m' < m ∧ J m' z5) (fun _ _ => False) z4)
          (fun _ _ => False) z3' else ∃ m', m' < m ∧ J m' z3') (fun _ _ => False) z3) (fun _ _ => False) z2) (fun _ _ => False) z1) (fun _ _ => False) z)
    (m : Nat) (j0 : J m s) : codeAny (model prog w) A (.compLoop (.ListComp elt [⟨target, iter, [cnd], 0⟩] scope pos) 0 it acc env) R s := by
  refine codeAny_loop rfl J (fun m z hj => (wpAny_noted ?_ : wpAny _ _ ((compTurn (.ListComp elt [⟨target, iter, [cnd], 0⟩] scope pos) 0 it acc env).onRaise _) _ _ z)) m j0
  rw [compTurn_listIf]
  refine wpAny_bind (wpAny_standAt (wpAny_bind (wpAny_mono (step m z hj) (fun got z1 h1 => ?_) fun _ _ no => no.elim)))
  match got, h1 with
  | none, h1 => exact wpAny_pure h1
  | some v, h1 =>
    refine wpAny_bind (wpAny_mono h1 (fun _ z2 h2 => wpAny_bind (wpAny_mono h2 (fun _ z3 h3 => wpAny_bind (wpAny_mono h3 (fun ok z3' h3' => ?_) fun _ _ no => no.elim)) fun _ _ no => no.elim)) fun _ _ no => no.elim)
    match ok, h3' with
    | true, h3' =>
      rw [if_pos rfl] at h3'
      refine wpAny_bind (wpAny_bind (wpAny_mono h3' (fun x z4 h4 => ?_) fun _ _ no => no.elim))
      exact wpAny_bind (wpAny_mono h4 (fun _ z5 h5 => wpAny_pure (wpAny_pure ⟨rfl, h5⟩)) fun _ _ no => no.elim)
    | false, h3' =>
      rw [if_neg Bool.false_ne_true] at h3'
      exact wpAny_bind (wpAny_pure (wpAny_pure ⟨rfl, h3'⟩))
section
variable {X : Cx}
theorem lcompIf_gen {elt tg iter cnd : Expr} {scope : Scope} {pos ppos : Pos} {cl : List (Str × Addr)} {ts fr : List Str} {ix : List Nat} {wi : TI} {g : TG} {tc : TT} {te : TE} (hc : X.calm = true) (S : CSc X scope cl ts fr ix) (hi : PI X tg iter wi)
    (hg : ∀ C fp s H, PG (cxC X (ts ++ fr) scope cl C fp s H) tg g) (he : ∀ C fp s H, PE (cxC X (ts ++ fr) scope cl C fp s H) elt te) (ht : ∀ C fp s H, PT (cxC X (ts ++ fr) scope cl C fp s H) cnd tc) (hs : ∀ x, foldedSetIterable iter X.env x = pure x)
    (use : Option (Value → Sem Unit)) {pins : List (Addr × Obj)} {s : Shared} {σ : St} {H : Hp} {Q : VK} {Qf : Value → Shared → Prop} (I : Inv X pins σ H s) (h : tCompIf wi (compSt ts.length ix) g tc te σ H Q) (fin : CompFin X pins σ use Q Qf) :
    wpAny (model X.prog X.w) X.A (comprehension (.ListComp elt [⟨tg, iter, [cnd], 0⟩] scope pos) scope X.env ppos (newList []) false (eval iter X.env) use) Qf X.xe s := by
  refine wpAny_comprehension_free (use := use) rfl hs S.clos S.kind S.names (thn (hi pins s σ H _ I h) fun v s1 h1 => thn h1 fun itv s2 h2 => ?_)
  obtain ⟨it, fp, tn, J, H2, e, I2, T, st2, f2, W, ⟨m0, w0⟩, turn⟩ := h2
  subst e
  have hob : ∀ b ∈ fp, b < s2.heap.objs.size := fun b hb => let ⟨o, e, _⟩ := T.obj _ _ st2 b hb; Heap.lt_size e
  refine wpAny_newObj_type (wpAny_newFunctionEnv S.nocell (by intro y hy; simp at hy) (fun h4 hns4 hsb4 => ?_) S.kind)
  dsimp only at hns4 hsb4 ⊢
  generalize hH2 : s2.heap.push { cls := .type "list", dict := none, data := .seq ([] : List Value).toArray } = G at hns4 hsb4 ⊢
  have hCs : G.objs.size = s2.heap.objs.size + 1 := by rw [← hH2, Heap.size_push]
  have hCle : s2.heap.objs.size ≤ G.objs.size := by omega
  have hne : G.objs.size ≠ s2.heap.objs.size := by omega
  have old : ∀ b o, s2.heap.get? b = some o → h4.get? b = some o := fun b o e => by
    have hlt := Heap.lt_size e
    exact hsb4.extBut b o (Nat.ne_of_lt (Nat.lt_of_lt_of_le hlt hCle)) (Heap.get?_push_of_some _ (hH2 ▸ Heap.get?_push_of_some _ e))
  have hacc : h4.get? s2.heap.objs.size = some { cls := .type "list", data := .seq ([] : List Value).toArray 0 } :=
    hsb4.extBut _ _ (Ne.symm hne) (Heap.get?_push_of_some _ (hH2 ▸ Heap.get?_push_size _ rfl))
  have K0 : Inv (cxC X (ts ++ fr) scope cl G.objs.size fp s2 H2) [] (compSt ts.length ix σ) H2 { s2 with heap := h4, toks := s2.toks + ([] : List (Str × Value)).length } :=
    cxC_inv S I2 f2 hob hCle old hns4 rfl rfl
  have st4 : tn 0 h4 := T.keep _ _ _ st2 fun b _ o e => old b o e
  have accF : s2.heap.objs.size ∉ fp := fun z => Nat.lt_irrefl _ (hob _ z)
  have stat : ∀ {H' : Hp}, (∀ b ∈ fp, H' b = none) → ∀ b ∈ fp, FpOk (cxC X (ts ++ fr) scope cl G.objs.size fp s2 H2) [] H' b := fun hn b hb =>
    ⟨hn b hb, fun z => by have h1 := hob b hb; have z' : b = G.objs.size := z; exact Nat.ne_of_lt (Nat.lt_of_lt_of_le h1 hCle) z', fun z => (cxC_ok S I2 f2 hob hCle).exfs b hb z, .inl hb, fun x c e => (f2 b hb).2.2.2.2.1 x c (S.sub x c e), fun p hp => absurd (show p ∈ ([] : List (Addr × Obj)) from hp) (by simp)⟩
  have statA : ∀ {H' : Hp}, H' s2.heap.objs.size = none → FpOk (cxC X (ts ++ fr) scope cl G.objs.size fp s2 H2) [] H' s2.heap.objs.size := fun hn =>
    ⟨hn, fun z => hne (show G.objs.size = s2.heap.objs.size from z.symm), fun z => by
      obtain ⟨_, o, ho, _⟩ := (cxC_ok S I2 f2 hob hCle).funs.mem z
      exact Nat.lt_irrefl _ (Heap.lt_size ho), .inr (Nat.le_refl _), fun x c e z => by
      obtain ⟨v, o, ho, _⟩ := I2.cell x c (S.sub x c e)
      rw [z] at ho
      exact Nat.lt_irrefl _ (Heap.lt_size ho), fun p hp => absurd (show p ∈ ([] : List (Addr × Obj)) from hp) (by simp)⟩
  have loop : ∀ s4 : Shared, s4 = { s2 with heap := h4, toks := s2.toks + ([] : List (Str × Value)).length } →
      codeAny (model X.prog X.w) X.A (.compLoop (.ListComp elt [⟨tg, iter, [cnd], 0⟩] scope pos) 0 (.ref it) (.ref s2.heap.objs.size) (compEnvC scope cl G.objs.size X.env))
        (compPost (model X.prog X.w) X.A X.xe use Qf (.ref s2.heap.objs.size) G.objs.size) s4 := by
    rintro s4 rfl
    refine compLoopIf (fun n s' => ∃ i σ' H' ys its k, Inv (cxC X (ts ++ fr) scope cl G.objs.size fp s2 H2) [] σ' H' s' ∧ Ext (compSt ts.length ix σ) σ' ∧ tn i s'.heap ∧ (∀ b ∈ fp, H' b = none) ∧ H' s2.heap.objs.size = none ∧
      s'.heap.get? s2.heap.objs.size = some { cls := .type "list", data := .seq its.toArray k } ∧ Vals ys its ∧ ys.length ≤ sizeLine ∧ W i n ys H') ?_ m0
      ⟨0, _, H2, [], [], 0, K0, ⟨rfl, fun _ _ z => z⟩, st4, fun b hb => (f2 b hb).1, I2.hok.fresh (Nat.le_refl _), hacc, .nil, Nat.zero_le _, w0⟩
    rintro n s5 ⟨i, σ5, H5, ys, its, k5, I5, x5, st5, fr5, fa5, ac5, rv5, hz5, w5⟩
    have I5' : Inv (cxC X (ts ++ fr) scope cl G.objs.size fp s2 H2) [] (compSt ts.length ix σ) H5 s5 := I5.weak x5.1.symm x5.2
    rcases turn i n ys H5 w5 with ⟨stop, qn⟩ | ⟨go, hlt, step⟩
    · refine thn (T.done (cxC X (ts ++ fr) scope cl G.objs.size fp s2 H2) rfl rfl rfl hc i [(s2.heap.objs.size, { cls := .type "list", data := .seq its.toArray k5 })] s5 _ H5 _ (I5'.pins_of fun p hp => ?_) (fun b hb => ?_) st5 stop) fun r s6 ⟨hr, I6⟩ => ?_
      · have e : p = (s2.heap.objs.size, { cls := .type "list", data := .seq its.toArray k5 }) := by simpa using hp
        subst e
        obtain ⟨a0, a1, a2, _⟩ := statA fa5
        exact ⟨ac5, a0, a1, a2, fun v z => by cases z⟩
      · obtain ⟨b0, b1, b2, b3, b4, b5⟩ := stat fr5 b hb
        refine ⟨b0, b1, b2, b3, b4, fun p hp => ?_⟩
        have e : p = (s2.heap.objs.size, { cls := .type "list", data := .seq its.toArray k5 }) := by
          have hp' : p ∈ [(s2.heap.objs.size, _)] := hp
          simpa using hp'
        subst e
        exact fun z => accF (by have z' : s2.heap.objs.size = b := z; rw [z']; exact hb)
      · subst hr
        have e6 := (I6.pin (s2.heap.objs.size, { cls := .type "list", data := .seq its.toArray k5 }) (by show _ ∈ [] ++ [_]; simp)).1
        obtain ⟨m6, hn6, _⟩ := I6.loc
        exact fin _ _ s6 _ m6 hn6 (I2.fpOk hCle (by rw [upd_ne hne]; exact I6.free)) (fun h' sb => comp_back I2 f2 hCle (Nat.le_refl _) hne I6.unpinned' fa5 e6 rv5 hz5 sb) (qn _ fa5)
    · refine thn (T.item (cxC X (ts ++ fr) scope cl G.objs.size fp s2 H2) rfl rfl rfl hc i [(s2.heap.objs.size, { cls := .type "list", data := .seq its.toArray k5 })] s5 _ H5 _ (I5'.pins_of fun p hp => ?_) (fun b hb => ?_) st5 go) fun r s6 ⟨u, hr, h6⟩ => ?_
      · have e : p = (s2.heap.objs.size, { cls := .type "list", data := .seq its.toArray k5 }) := by simpa using hp
        subst e
        obtain ⟨a0, a1, a2, _⟩ := statA fa5
        exact ⟨ac5, a0, a1, a2, fun v z => by cases z⟩
      · obtain ⟨b0, b1, b2, b3, b4, b5⟩ := stat fr5 b hb
        refine ⟨b0, b1, b2, b3, b4, fun p hp => ?_⟩
        have e : p = (s2.heap.objs.size, { cls := .type "list", data := .seq its.toArray k5 }) := by
          have hp' : p ∈ [(s2.heap.objs.size, _)] := hp
          simpa using hp'
        subst e
        exact fun z => accF (by have z' : s2.heap.objs.size = b := z; rw [z']; exact hb)
      · subst hr
        refine thn h6 fun _ s7 ⟨x, H7, I7, r7, y7, st7, fr7⟩ => ?_
        have fa7 : H7 s2.heap.objs.size = none := (I7.pin (s2.heap.objs.size, { cls := .type "list", data := .seq its.toArray k5 }) (by show _ ∈ [] ++ [_]; simp)).2.1
        have ac7 := (I7.pin (s2.heap.objs.size, { cls := .type "list", data := .seq its.toArray k5 }) (by show _ ∈ [] ++ [_]; simp)).1
        have I7' : Inv (cxC X (ts ++ fr) scope cl G.objs.size fp s2 H2) ([] ++ pinsAt (s2.heap.objs.size :: fp) s7.heap) (compSt ts.length ix σ) H7 s7 := by
          refine Inv.pinned I7.unpinned' (fun b hb => ?_) fun b hb => ?_
          · rcases List.mem_cons.mp hb with e | e
            · subst e; exact statA fa7
            · exact stat fr7 b e
          · rcases List.mem_cons.mp hb with e | e
            · subst e; exact ⟨_, ac7, fun v z => by cases z⟩
            · exact T.obj _ _ st7 b e
        refine thn (hg G.objs.size fp s2 H2 _ s7 _ H7 x u _ I7' r7 (step x H7 y7)) fun _ s8 ⟨σ8, H8, I8, x8, q8⟩ => ?_
        refine thn (ht G.objs.size fp s2 H2 _ s8 _ H8 _ I8 q8) fun ok s8' ⟨H8', I8', q8'⟩ => ?_
        cases ok with
        | false =>
          rw [if_neg Bool.false_ne_true] at q8' ⊢
          obtain ⟨m', hm', w9⟩ := q8'
          obtain ⟨ac9, fa9, _⟩ := I8'.pin (s2.heap.objs.size, { cls := .type "list", data := .seq its.toArray k5 }) (by show _ ∈ [] ++ ([] ++ _); simp; exact mem_pinsAt List.mem_cons_self ac7)
          have keep9 : ∀ b ∈ fp, ∀ o, s7.heap.get? b = some o → s8'.heap.get? b = some o ∧ H8' b = none := fun b hb o e => by
            obtain ⟨z1, z2, _⟩ := I8'.pin (b, o) (by show _ ∈ [] ++ ([] ++ _); simp; exact mem_pinsAt (List.mem_cons_of_mem _ hb) e)
            exact ⟨z1, z2⟩
          refine ⟨m', hm', i + 1, σ8, H8', ys, its, k5, I8'.unpinned', x8, ?_, ?_, fa9, ac9, rv5, hz5, w9⟩
          · exact T.keep _ _ _ st7 fun b hb o e => (keep9 b hb o e).1
          · intro b hb
            obtain ⟨o, e, _⟩ := T.obj _ _ st7 b hb
            exact (keep9 b hb o e).2
        | true =>
          rw [if_pos rfl] at q8' ⊢
          refine thn (he G.objs.size fp s2 H2 _ s8' _ H8' _ I8' q8') fun yv s9 ⟨y, H9, I9, r9, m', hm', w9⟩ => ?_
          obtain ⟨ac9, fa9, _⟩ := I9.pin (s2.heap.objs.size, { cls := .type "list", data := .seq its.toArray k5 }) (by show _ ∈ [] ++ ([] ++ _); simp; exact mem_pinsAt List.mem_cons_self ac7)
          have keep9 : ∀ b ∈ fp, ∀ o, s7.heap.get? b = some o → s9.heap.get? b = some o ∧ H9 b = none := fun b hb o e => by
            obtain ⟨z1, z2, _⟩ := I9.pin (b, o) (by show _ ∈ [] ++ ([] ++ _); simp; exact mem_pinsAt (List.mem_cons_of_mem _ hb) e)
            exact ⟨z1, z2⟩
          have hl := rv5.length
          refine call_meets F.slot_list_append ⟨_, ac9, rfl⟩ F.entry_list_append (F.args_list_append_2 _ _) (PySem.list_append s2.heap.objs.size its.toArray k5 yv (by rw [List.size_toArray]; omega)) ⟨ac9, ?_⟩
          have q := PySem.IsL.update ac9 (fun a => a.push yv)
          have qo : ∀ b o, b ≠ s2.heap.objs.size → s9.heap.get? b = some o → (s9.heap.update s2.heap.objs.size (Obj.mapSeq (fun a => a.push yv))).get? b = some o := fun b o hb e => (Heap.get?_update_other s9.heap _ (Ne.symm hb)).trans e
          have q' : ∃ k, (s9.heap.update s2.heap.objs.size (Obj.mapSeq (fun a => a.push yv))).get? s2.heap.objs.size = some { cls := .type "list", data := .seq (its ++ [yv]).toArray k } := ⟨_, by rw [q]; simp; rfl⟩
          obtain ⟨k9, q9⟩ := q'
          obtain ⟨a0, a1, a2, a3, a4, a5⟩ := statA (show H9 s2.heap.objs.size = none from fa9)
          refine ⟨m', hm', i + 1, σ8, H9, ys ++ [y], its ++ [yv], k9, (I9.unpinned').turned qo a0 a1 a3 a4 a5, x8, ?_, ?_, fa9, q9, rv5.append (.cons r9 .nil), ?_, w9⟩
          · refine T.keep _ _ _ st7 fun b hb o e => qo b o (fun z => accF (z ▸ hb)) (keep9 b hb o e).1
          · intro b hb
            obtain ⟨o, e, _⟩ := T.obj _ _ st7 b hb
            exact (keep9 b hb o e).2
          · rw [List.length_append, List.length_singleton]; omega
  exact codeAny_compStart_list (loop _ rfl) (T.self _ 0 _ _ _ st4 (loop _ rfl))
theorem pe_lcompIf {elt tg iter cnd : Expr} {scope : Scope} {pos : Pos} {cl : List (Str × Addr)} {ts fr : List Str} {ix : List Nat} {wi : TI} {g : TG} {tc : TT} {te : TE} (hc : X.calm = true) (S : CSc X scope cl ts fr ix) (hi : PI X tg iter wi)
    (hg : ∀ C fp s H, PG (cxC X (ts ++ fr) scope cl C fp s H) tg g) (he : ∀ C fp s H, PE (cxC X (ts ++ fr) scope cl C fp s H) elt te) (ht : ∀ C fp s H, PT (cxC X (ts ++ fr) scope cl C fp s H) cnd tc)
    (hs : ∀ x, foldedSetIterable iter X.env x = pure x := by intro _; rfl) :
    PE X (.ListComp elt [⟨tg, iter, [cnd], 0⟩] scope pos) (tCompIf wi (compSt ts.length ix) g tc te) := by
  intro pins s σ H Q I h
  rw [eval_ListComp]
  exact lcompIf_gen hc S hi hg he ht hs none I h fin_none
end
end L2
set_option Elab.async false
set_option linter.all false
set_option maxRecDepth 100000
set_option maxHeartbeats 4000000
namespace L2
open PySem PySem.Spec PyProof.Rows
section
variable {X : Cx}
def findC (T : Str) (c : Nat) : Int := Txt.find T ⟨#[c]⟩
theorem occ_mem (s sub : Str) (hi limit : Nat) : ∀ (l : List Nat) (st : Array Nat × Nat) (k : Nat), k ∈ (forIn l st (StrLaws.occBody s sub hi limit)).run.fst.toList → k ∈ st.fst.toList ∨ (k + sub.length ≤ hi ∧ Builtin.Str.subAt s sub k = true)
  | [], st, k, h => .inl h
  | a :: l, st, k, h => by
    rw [List.forIn_cons] at h
    unfold StrLaws.occBody at h
    split at h
    · rename_i c
      rcases occ_mem s sub hi limit l _ k h with z | z
      · simp at z
        rcases z with z | z
        · exact .inl (by simpa using z)
        · subst z; exact .inr ⟨c.1.2, c.2⟩
      · exact .inr z
    · rcases occ_mem s sub hi limit l _ k h with z | z
      · exact .inl z
      · exact .inr z
theorem findC_at {T : Str} {c : Nat} (h : c ∈ T.cps.toList) : ∃ i : Nat, findC T c = (i : Int) ∧ T.cps.toList[i]? = some c ∧ ∃ rest, Builtin.Str.occurrences T ⟨#[c]⟩ 0 T.length 1 = i :: rest := by
  have h1 := StrLaws.found_one T c
  rw [decide_eq_true h] at h1
  cases ho : Builtin.Str.occurrences T ⟨#[c]⟩ 0 T.length 1 with
  | nil => rw [ho] at h1; cases h1
  | cons i rest =>
    refine ⟨i, by simp [findC, Txt.find, ho], ?_, rest, rfl⟩
    rw [StrLaws.occ_eq] at ho
    have hm := occ_mem T ⟨#[c]⟩ T.length 1 (List.range' 0 (T.length + 1 - 0)) (#[], 0) i (by rw [ho]; exact List.mem_cons_self)
    rcases hm with z | z
    · simp at z
    · exact (StrLaws.subAt_one T c i).mp z
theorem op_in_1 : OpR X (compareOp .In) (fun x y H Q => ∃ c T, x = .str ⟨#[c]⟩ ∧ y = .str T ∧ Q (.bl (decide (c ∈ T.cps.toList))) H) := by
  intro pins s σ H x y v u Q I rx ry h
  obtain ⟨c, T, rfl, rfl, q⟩ := h
  exact op_in_str pins s σ H _ _ v u Q I rx ry ⟨_, _, rfl, rfl, by rw [StrLaws.found_one]; exact q⟩
theorem op_notin_1 : OpR X (compareOp .NotIn) (fun x y H Q => ∃ c T, x = .str ⟨#[c]⟩ ∧ y = .str T ∧ Q (.bl (!decide (c ∈ T.cps.toList))) H) := by
  intro pins s σ H x y v u Q I rx ry h
  obtain ⟨c, T, rfl, rfl, q⟩ := h
  exact op_notin_str pins s σ H _ _ v u Q I rx ry ⟨_, _, rfl, rfl, by rw [StrLaws.found_one]; exact q⟩
theorem mt_find : MtR X "str.find" (fun x xs H Q => ∃ T c, x = .str T ∧ xs = [.str ⟨#[c]⟩] ∧ Q (.int (findC T c)) H) := by
  intro pins s σ H x xs v us Q I rx rs h
  obtain ⟨T, c, rfl, rfl, q⟩ := h
  obtain ⟨t, rfl⟩ := rx
  obtain ⟨u, rfl, t', rfl⟩ := vals1 rs
  exact call_meets F.slot_str_find (typeIs_str _ _ _) F.entry_str_find (F.args_str_find_2 _ _) (gives_str_find _ _ _ _).meets ⟨.int (findC T c), H, I.tok _, ⟨_, rfl⟩, q⟩
theorem mt_index : MtR X "str.index" (fun x xs H Q => ∃ T c, x = .str T ∧ xs = [.str ⟨#[c]⟩] ∧ c ∈ T.cps.toList ∧ Q (.int (findC T c)) H) := by
  intro pins s σ H x xs v us Q I rx rs h
  obtain ⟨T, c, rfl, rfl, hc, q⟩ := h
  obtain ⟨t, rfl⟩ := rx
  obtain ⟨u, rfl, t', rfl⟩ := vals1 rs
  obtain ⟨i, e1, e2, rest, ho⟩ := findC_at hc
  refine call_meets F.slot_str_index (typeIs_str _ _ _) F.entry_str_index (F.args_str_index_2 _ _) (gives_str_index _ _ _ _ i rest ho).meets ⟨.int (findC T c), H, I.tok _, ⟨_, by rw [e1]⟩, q⟩
theorem strs_of {zs : List Str} : ∀ {us : List Value}, Vals (zs.map V.str) us → StrsAre us zs := by
  induction zs with
  | nil => intro us r; rw [List.map_nil] at r; cases r; exact .nil
  | cons z zs ih =>
    intro us r
    rw [List.map_cons] at r
    cases r with
    | cons r1 r2 =>
      obtain ⟨t, e⟩ := r1
      subst e
      exact .cons z t (ih r2)
theorem mt_join : MtR X "str.join" (fun x xs H Q => ∃ sep p zs, x = .str sep ∧ xs = [.ref p] ∧ SqL X.K H p (zs.map V.str) ∧ (zs.map (·.length)).sum + zs.length * sep.length ≤ 16777216 ∧ Q (.str (Txt.join sep zs)) H) := by
  intro pins s σ H x xs v us Q I rx rs h
  obtain ⟨sep, p, zs, rfl, rfl, hp, hz, q⟩ := h
  obtain ⟨t, rfl⟩ := rx
  obtain ⟨u, rfl, ru⟩ := vals1 rs
  cases ru
  obtain ⟨its, r, pl, _⟩ := I.list hp
  exact join_list pl.isList (by simpa using strs_of r) hz fun t' k => ⟨.str _, H, I.tok _, ⟨_, rfl⟩, q⟩
end
theorem CSc.of {X : Cx} {scope : Scope} {cl : List (Str × Addr)} {ts fr : List Str} {ix : List Nat} (clos : closureFor scope X.env = pure cl) (kind : scope.kind = .function)
    (nocell : (scope.names.all fun p => p.2 != .cell) = true) (names : (scope.names.all fun p => p.2 != .local || scope.names.lookup p.1 == some .local) = true) (sub : ∀ p ∈ cl, X.env.cells.lookup p.1 = some p.2)
    (has : ((relabel scope X.env).names.all fun p => !(p.2 == .cell || p.2 == .free) || (cl.lookup p.1).isSome) = true) (nofn : (ts.all fun y => (relabel scope X.env).names.lookup y == some .local) = true)
    (len : ix.length = fr.length) (vis : ((fr.zip ix).all fun p => X.N[p.2]? == some p.1 && (X.env.kindOf p.1 == some .cell || X.env.kindOf p.1 == some .free) && ((relabel scope X.env).names.lookup p.1 == some .cell || (relabel scope X.env).names.lookup p.1 == some .free)) = true) :
    CSc X scope cl ts fr ix := by
  refine ⟨clos, kind, fun y hy => ?_, fun y hy e => ?_, fun y c e => sub _ (PySem.mem_of_lookup e), fun y z => ?_, fun y hy => ?_, len, fun j y e => ?_⟩
  · have := List.all_eq_true.mp nocell y hy
    simpa using this
  · have := List.all_eq_true.mp names y hy
    rw [e] at this
    simpa using this
  · have key : ∀ k, (relabel scope X.env).names.lookup y = some k → (k == .cell || k == .free) = true → ∃ c, cl.lookup y = some c := fun k e hk => by
      have := List.all_eq_true.mp has _ (PySem.mem_of_lookup e)
      rw [hk] at this
      exact Option.isSome_iff_exists.mp (by simpa using this)
    rcases z with z | z
    · exact key _ z rfl
    · exact key _ z rfl
  · have := List.all_eq_true.mp nofn y hy
    simpa using this
  · obtain ⟨hj, _⟩ := List.getElem?_eq_some_iff.mp e
    have hj2 : j < ix.length := by omega
    have hm : (y, ix[j]) ∈ fr.zip ix := by
      rw [List.mem_iff_getElem?]
      exact ⟨j, by rw [List.getElem?_zip_eq_some]; exact ⟨e, List.getElem?_eq_getElem hj2⟩⟩
    have := List.all_eq_true.mp vis _ hm
    simp only [Bool.and_eq_true, Bool.or_eq_true, beq_iff_eq] at this
    exact ⟨ix[j], List.getElem?_eq_getElem hj2, this.1.1, this.1.2, this.2⟩
end L2
set_option Elab.async false
set_option linter.all false
set_option maxRecDepth 100000
set_option maxHeartbeats 4000000
namespace HT
open PySem PySem.Spec PyProof.Rows
section
open PySem.SeqAt
open PySem.AutoSeq1 (wpAny_loadPart')
open PySem.MeetsSeq PySem.MeetsSeq2 PySem.MeetsSeq3
end
end HT
namespace L2
open PySem PySem.Spec PyProof.Rows
section
variable {X : Cx}
end
end L2
set_option Elab.async false
set_option linter.all false
set_option maxRecDepth 100000
set_option maxHeartbeats 4000000
namespace L2
open PySem PySem.Spec PyProof.Rows
def tSM (r : V → List V → Hp → VK → Prop) (to : TE) (t : TA) : TE := fun σ H Q => to σ H fun x H1 => (∃ z, x = .str z) ∧ t σ H1 fun xs H2 => r x xs H2 Q
theorem pe_sm {X : Cx} {o e : Expr} {es : List Expr} {to : TE} {t : TA} {name : Str} {apos cpos : Pos} {id : String} {r : V → List V → Hp → VK → Prop} (slot : Slot "str" name id) (hty : typeOf (.builtin id) = pure (.type "method_descriptor")) (hm : MtR X id r) (ho : PE X o to) (ha : PA X (e :: es) t)
    (hbase : attributeBase o name X.env (eval o X.env) = eval o X.env := by rfl)
    (hfew : ((backTo cpos (starEach (e :: es) X.env)).all (fun x => !x.1) && (backToKw cpos (keywordEach [] X.env)).all (fun x => x.1.isSome)
      && decide ((e :: es).length + ([] : List Keyword).length + (if ([] : List Keyword).isEmpty then 0 else 1) < 30)) = true := by rfl)
    (hline : (apos.endLine == cpos.line) = true := by rfl) (hs : starEach (e :: es) X.env = (false, eval e X.env) :: starEach es X.env := by rfl) (hplain : (backTo cpos (starEach es X.env)).any (·.1) = false := by rfl) :
    PE X (.Call (.Attribute o name apos) (e :: es) [] cpos) (tSM r to t) := by
  intro pins s σ H Q I h
  refine wpAny_Call_method_late hbase hfew hline rfl (thn (ho pins s σ H _ I h) fun v s1 ⟨x, H1, I1, r1, ⟨z, hz⟩, q1⟩ => ?_)
  subst hz
  obtain ⟨h1, h2⟩ := tyV_is (T := "str") I1 r1 rfl
  refine ⟨"str", id, PySem.F.plainAttrs_str, slot, hty, h1, h2, ?_⟩
  have hA := ha cpos pins s1 σ H1 _ I1 q1
  rw [hs] at hA ⊢
  refine Calls.callWith_builtin (by show (false || (backTo cpos (starEach es X.env)).any (·.1)) = false; rw [hplain] <;> rfl) (Calls.evalArgs_plain ?_)
  exact thn hA fun us s2 ⟨vs, H2, I2, r2, q2⟩ => hm pins s2 σ H2 _ vs v us Q I2 r1 r2 q2
end L2
set_option Elab.async false
set_option linter.all false
set_option maxRecDepth 100000
set_option maxHeartbeats 4000000
namespace L2
open PySem PySem.Spec PyProof.Rows
section
variable {X : Cx}
end
end L2
namespace SHP
open PySem L2
end SHP
set_option Elab.async false
set_option linter.all false
set_option maxRecDepth 100000
set_option maxHeartbeats 4000000
namespace L2
open PySem PySem.Spec PyProof.Rows
open PySem.AutoSeq1 in
theorem list_extend_tup (l b : Addr) (xs ys : Array Value) (n m : Nat) (dd : Option Addr) (sl : Array (Option Value)) (long : ¬(!xs.isEmpty && Builtin.List.listTooLong (xs.size + ys.size)) = true) (fit1 : xs.size ≤ sizeLine) (fit2 : xs.size + ys.size ≤ sizeLine + 1) :
    Meets (Builtin.«list.extend» ⟨[.ref l, .ref b], []⟩) (fun _ R s => (s.heap.get? l = some { cls := .type "list", dict := none, data := .seq xs n, slots := #[] } ∧ s.heap.get? b = some { cls := .type "tuple", dict := dd, data := .seq ys m, slots := sl }) ∧ R (.ok (.ret Value.none)) { s with heap := s.heap.update l (Obj.mapSeq (· ++ ys)) }) :=
  .of_wp fun prog w A R ⟨hp, gn, dr, tk, os⟩ ⟨⟨hl, hb⟩, q⟩ => by
    have a1 := idx_int
    have a2 := AutoSeq1.sub_tuple_tuple
    have a3 := AutoSeq1.sub_list_list
    have a4 := AutoSeq1.sub_tuple_list
    have a5 := AutoSeq1.sub_list_tuple
    have both : (xs ++ ys).size ≤ sizeLine + 1 := by simpa using fit2
    wp_walk using wpAny_updateSeq hl rfl (hz := fit1) (_hz' := both), wpAny_loadPart' hl, wpAny_loadPart' hb
    exact ⟨_, rfl, q⟩
section
variable {X : Cx}
def rExtendT (K : PySem.W.Frag) : V → List V → Hp → VK → Prop := fun x vs H Q => ∃ l b xs zs, x = .ref l ∧ vs = [.ref b] ∧ H l = some (.lst xs) ∧ SqT K H b zs ∧ xs.length + zs.length ≤ sizeLine ∧ Q .non (upd H l (.lst (xs ++ zs)))
theorem mt_extendT : MtM X "list.extend" (rExtendT X.K) := by
  intro pins s σ H x vs v us Q I rx rv h
  obtain ⟨l, b, xs, zs, rfl, rfl, hH, hB, hz, q⟩ := h
  cases rx
  obtain ⟨u, rfl, ru⟩ := rv.one
  cases ru
  obtain ⟨z, its, n, r, hl, e⟩ := I.lstM hH
  obtain ⟨its2, r2, p2, _⟩ := I.tuple hB
  have hl2 := r2.length
  obtain ⟨⟨cls, dd, data, sl⟩, e2, hc, hrest⟩ := id p2
  have hsz : its.toArray.size + its2.toArray.size ≤ sizeLine := by rw [List.size_toArray, List.size_toArray]; omega
  have hlong : ¬ (!its.toArray.isEmpty && Builtin.List.listTooLong (its.toArray.size + its2.toArray.size)) = true := by
    rw [notLongL hsz, Bool.and_false]
    exact Bool.false_ne_true
  obtain ⟨n2, hd⟩ := (show ∃ n2, data = .seq its2.toArray n2 from by first | exact hrest | exact ⟨_, hrest.2⟩ | (obtain ⟨_, n, hd⟩ := hrest; exact ⟨n, hd⟩))
  have hc' : cls = .type "tuple" := hc
  subst hc' hd
  refine call_meets F.slot_list_extend ⟨_, e, rfl⟩ F.entry_list_extend (F.args_list_extend_2 _ _)
    (list_extend_tup l b its.toArray its2.toArray n n2 dd sl hlong (by rw [List.size_toArray]; omega) (by omega)) ⟨⟨e, e2⟩, ?_⟩
  refine ⟨.non, _, I.lset (its' := its ++ its2) hH e (by simp) (r.append r2) ?_, rfl, q⟩
  rw [List.length_append]
  omega
end
end L2
namespace SHP
open PySem L2
end SHP
set_option Elab.async false
set_option linter.all false
set_option maxRecDepth 100000
set_option maxHeartbeats 4000000
namespace MI
open PySem L2
inductive D where
  | non | bl (b : Bool) | int (i : Int) | str (x : Str) | ty (n : String) | tup (xs : List D) | rol (xs : List D) | ref (i : Nat) | scr (xs : List D) | rod (ks : List Key) (xs : List D) | rdT (ks : List (List Key)) (xs : List D) | exc (c : Str)
inductive O where
  | lst (xs : List D) | dK (kvs : List (Key × D)) | dT (kvs : List (List Key × D))
abbrev Hd := List O
abbrev Sd := List (Option D)
inductive R (α : Type) where
  | ok (a : α) (h : Hd) | ex (c : Str) (h : Hd) | no
def R.bind {α β : Type} : R α → (α → Hd → R β) → R β
  | .ok a h, k => k a h
  | .ex c h, _ => .ex c h
  | .no, _ => .no
inductive Fl where
  | nx (σ : Sd) (h : Hd) | rt (d : D) (h : Hd) | bk (σ : Sd) (h : Hd) | ct (σ : Sd) (h : Hd) | ex (c : Str) (h : Hd) | no
def R.fl {α : Type} : R α → (α → Hd → Fl) → Fl
  | .ok a h, k => k a h
  | .ex c h, _ => .ex c h
  | .no, _ => .no
abbrev SE := Sd → Hd → R D
abbrev ST := Sd → Hd → R Bool
abbrev SA := Sd → Hd → R (List D)
abbrev SS := Sd → Hd → Fl
def SqF (K : PySem.W.Frag) (H : Hp) (a : Addr) (vs : List V) : Prop := (∃ o, H a = some (.frz o (.lst vs))) ∨ SqL K (fun _ => none) a vs
theorem SqF.l {K : PySem.W.Frag} {H : Hp} {a : Addr} {vs : List V} (h : SqF K H a vs) : SqL K H a vs := by
  rcases h with ⟨o, h⟩ | h
  · exact .inl (.inr ⟨o, h⟩)
  · rcases h with (h | ⟨o, h⟩) | h
    · cases h
    · cases h
    · exact .inr h
def SqZ (H : Hp) (a : Addr) (vs : List V) : Prop := ∃ o, H a = some (.frz o (.lst vs))
theorem SqZ.l {K : PySem.W.Frag} {H : Hp} {a : Addr} {vs : List V} (h : SqZ H a vs) : SqL K H a vs := let ⟨o, e⟩ := h; .inl (.inr ⟨o, e⟩)
def exO (a : Addr) : HO := .ext fun h => ∃ o, h.get? a = some o
mutual
inductive Rep (K : PySem.W.Frag) (ι : List Addr) (H : Hp) : V → D → Prop
  | non : Rep K ι H .non .non
  | bl (b : Bool) : Rep K ι H (.bl b) (.bl b)
  | int (i : Int) : Rep K ι H (.int i) (.int i)
  | str (x : Str) : Rep K ι H (.str x) (.str x)
  | ty (n : String) : Rep K ι H (.ty n) (.ty n)
  | tup {a : Addr} {vs : List V} {xs : List D} (h : H a = some (.tup vs)) (r : Reps K ι H vs xs) : Rep K ι H (.ref a) (.tup xs)
  | rol {a : Addr} {vs : List V} {xs : List D} (h : SqZ H a vs) (r : Reps K ι H vs xs) : Rep K ι H (.ref a) (.rol xs)
  | scr {a : Addr} {vs : List V} {xs : List D} (h : SqF K H a vs) (r : Reps K ι H vs xs) : Rep K ι H (.ref a) (.scr xs)
  | ref {a : Addr} {i : Nat} (h : ι[i]? = some a) : Rep K ι H (.ref a) (.ref i)
  | rod {a : Addr} {o : Obj} {us : List (Key × V)} {ks : List Key} {xs : List D} (h : H a = some (.frz o (.dK us))) (e : us.map (·.1) = ks) (r : Reps K ι H (us.map (·.2)) xs) : Rep K ι H (.ref a) (.rod ks xs)
  | rdT {a : Addr} {o : Obj} {us : List (List Key × V)} {ks : List (List Key)} {xs : List D} (h : H a = some (.frz o (.dT us))) (e : us.map (·.1) = ks) (r : Reps K ι H (us.map (·.2)) xs) : Rep K ι H (.ref a) (.rdT ks xs)
  | exc {a C : Addr} {o : Obj} {c : Str} (h : H a = some (.frz o (exO a))) (hc : o.cls = .ref C) (hn : PySem.W.nsIn K mainGlobals c = some (some (.ref C))) : Rep K ι H (.ref a) (.exc c)
inductive Reps (K : PySem.W.Frag) (ι : List Addr) (H : Hp) : List V → List D → Prop
  | nil : Reps K ι H [] []
  | cons {v : V} {d : D} {vs : List V} {ds : List D} (r : Rep K ι H v d) (rs : Reps K ι H vs ds) : Reps K ι H (v :: vs) (d :: ds)
end
structure Gw (ι : List Addr) (H : Hp) (ι' : List Addr) (H' : Hp) : Prop where
  pre : ∃ m, ι' = ι ++ m
  tup : ∀ a vs, H a = some (.tup vs) → H' a = some (.tup vs)
  frz : ∀ a o u, H a = some (.frz o u) → H' a = some (.frz o u)
structure Gr (ι : List Addr) (H : Hp) (ι' : List Addr) (H' : Hp) : Prop where
  pre : ∃ m, ι' = ι ++ m ∧ ∀ a ∈ m, H a = none
  tup : ∀ a vs, H a = some (.tup vs) → H' a = some (.tup vs)
  frz : ∀ a o u, H a = some (.frz o u) → H' a = some (.frz o u)
  oth : ∀ a u, H a = some u → a ∉ ι → H' a = some u
  kp : ∀ a u, H a = some u → ∃ u', H' a = some u'
theorem Gr.w {ι ι' : List Addr} {H H' : Hp} (g : Gr ι H ι' H') : Gw ι H ι' H' := ⟨let ⟨m, e, _⟩ := g.pre; ⟨m, e⟩, g.tup, g.frz⟩
theorem Gr.refl (ι : List Addr) (H : Hp) : Gr ι H ι H := ⟨⟨[], by simp, by simp⟩, fun _ _ h => h, fun _ _ _ h => h, fun _ _ h _ => h, fun _ u h => ⟨u, h⟩⟩
theorem Gr.trans {ι ι1 ι2 : List Addr} {H H1 H2 : Hp} (a : Gr ι H ι1 H1) (b : Gr ι1 H1 ι2 H2) : Gr ι H ι2 H2 := by
  obtain ⟨m, rfl, hm⟩ := a.pre
  obtain ⟨n, rfl, hn⟩ := b.pre
  refine ⟨⟨m ++ n, by simp, fun x hx => ?_⟩, fun x vs h => b.tup x vs (a.tup x vs h), fun x o u h => b.frz x o u (a.frz x o u h), fun x u h hx => ?_, fun x u h => ?_⟩
  · rcases List.mem_append.mp hx with hx | hx
    · exact hm x hx
    · cases e : H x with
      | none => rfl
      | some u =>
        obtain ⟨u', e'⟩ := a.kp x u e
        rw [hn x hx] at e'; cases e'
  · refine b.oth x u (a.oth x u h hx) fun z => ?_
    rcases List.mem_append.mp z with z | z
    · exact hx z
    · rw [hm x z] at h; cases h
  · obtain ⟨u', e⟩ := a.kp x u h
    exact b.kp x u' e
theorem Gw.at {ι ι' : List Addr} {H H' : Hp} (g : Gw ι H ι' H') {i : Nat} {a : Addr} (h : ι[i]? = some a) : ι'[i]? = some a := by
  obtain ⟨m, rfl⟩ := g.pre
  rw [List.getElem?_append_left (List.getElem?_eq_some_iff.mp h).1]
  exact h
theorem Gr.at {ι ι' : List Addr} {H H' : Hp} (g : Gr ι H ι' H') {i : Nat} {a : Addr} (h : ι[i]? = some a) : ι'[i]? = some a := g.w.at h
theorem SqF.monoW {K : PySem.W.Frag} {ι ι' : List Addr} {H H' : Hp} (g : Gw ι H ι' H') {a : Addr} {vs : List V} (h : SqF K H a vs) : SqF K H' a vs := by
  rcases h with ⟨o, h⟩ | h
  · exact .inl ⟨o, g.frz _ _ _ h⟩
  · exact .inr h
theorem SqZ.monoW {ι ι' : List Addr} {H H' : Hp} (g : Gw ι H ι' H') {a : Addr} {vs : List V} (h : SqZ H a vs) : SqZ H' a vs := let ⟨o, e⟩ := h; ⟨o, g.frz _ _ _ e⟩
theorem SqZ.mono {ι ι' : List Addr} {H H' : Hp} (g : Gr ι H ι' H') {a : Addr} {vs : List V} (h : SqZ H a vs) : SqZ H' a vs := h.monoW g.w
mutual
theorem Rep.monoW {K : PySem.W.Frag} {ι ι' : List Addr} {H H' : Hp} (g : Gw ι H ι' H') : ∀ {v : V} {d : D}, Rep K ι H v d → Rep K ι' H' v d
  | _, _, .non => .non
  | _, _, .bl b => .bl b
  | _, _, .int i => .int i
  | _, _, .str x => .str x
  | _, _, .ty n => .ty n
  | _, _, .tup h r => .tup (g.tup _ _ h) (Reps.monoW g r)
  | _, _, .rol h r => .rol (h.monoW g) (Reps.monoW g r)
  | _, _, .scr h r => .scr (h.monoW g) (Reps.monoW g r)
  | _, _, .ref h => .ref (g.at h)
  | _, _, .rod h e r => .rod (g.frz _ _ _ h) e (Reps.monoW g r)
  | _, _, .rdT h e r => .rdT (g.frz _ _ _ h) e (Reps.monoW g r)
  | _, _, .exc h hc hn => .exc (g.frz _ _ _ h) hc hn
theorem Reps.monoW {K : PySem.W.Frag} {ι ι' : List Addr} {H H' : Hp} (g : Gw ι H ι' H') : ∀ {vs : List V} {ds : List D}, Reps K ι H vs ds → Reps K ι' H' vs ds
  | _, _, .nil => .nil
  | _, _, .cons r rs => .cons (Rep.monoW g r) (Reps.monoW g rs)
end
theorem Rep.mono {K : PySem.W.Frag} {ι ι' : List Addr} {H H' : Hp} (g : Gr ι H ι' H') {v : V} {d : D} (r : Rep K ι H v d) : Rep K ι' H' v d := r.monoW g.w
theorem Reps.mono {K : PySem.W.Frag} {ι ι' : List Addr} {H H' : Hp} (g : Gr ι H ι' H') {vs : List V} {ds : List D} (r : Reps K ι H vs ds) : Reps K ι' H' vs ds := r.monoW g.w
section
variable {K : PySem.W.Frag} {ι : List Addr} {H : Hp}
theorem Reps.len {vs : List V} {ds : List D} : Reps K ι H vs ds → vs.length = ds.length
  | .nil => rfl
  | .cons _ rs => by rw [List.length_cons, List.length_cons, rs.len]
theorem Reps.get : ∀ {vs : List V} {ds : List D} {i : Nat} {d : D}, Reps K ι H vs ds → ds[i]? = some d → ∃ v, vs[i]? = some v ∧ Rep K ι H v d
  | _, _, _, _, .nil, e => by simp at e
  | _, _, 0, _, .cons r _, e => by simp at e; subst e; exact ⟨_, rfl, r⟩
  | _, _, i + 1, d, .cons _ rs, e => by
    obtain ⟨u, h1, h2⟩ := Reps.get (i := i) (d := d) rs (by simpa using e)
    exact ⟨u, by simpa using h1, h2⟩
theorem Reps.app : ∀ {vs us : List V} {ds es : List D}, Reps K ι H vs ds → Reps K ι H us es → Reps K ι H (vs ++ us) (ds ++ es)
  | _, _, _, _, .nil, s => s
  | _, _, _, _, .cons r rs, s => .cons r (Reps.app rs s)
theorem Reps.set {v : V} {d : D} (q : Rep K ι H v d) : ∀ {vs : List V} {ds : List D} (i : Nat), Reps K ι H vs ds → Reps K ι H (vs.set i v) (ds.set i d)
  | _, _, _, .nil => .nil
  | _, _, 0, .cons _ rs => .cons q rs
  | _, _, i + 1, .cons r rs => .cons r (Reps.set q i rs)
theorem Reps.take : ∀ {vs : List V} {ds : List D} (n : Nat), Reps K ι H vs ds → Reps K ι H (vs.take n) (ds.take n)
  | _, _, 0, _ => .nil
  | _, _, _ + 1, .nil => .nil
  | _, _, n + 1, .cons r rs => .cons r (Reps.take n rs)
theorem Reps.drop : ∀ {vs : List V} {ds : List D} (n : Nat), Reps K ι H vs ds → Reps K ι H (vs.drop n) (ds.drop n)
  | _, _, 0, r => r
  | _, _, _ + 1, .nil => .nil
  | _, _, n + 1, .cons _ rs => Reps.drop n rs
theorem Reps.erase : ∀ {vs : List V} {ds : List D} (n : Nat), Reps K ι H vs ds → Reps K ι H (vs.eraseIdx n) (ds.eraseIdx n)
  | _, _, _, .nil => .nil
  | _, _, 0, .cons _ rs => rs
  | _, _, n + 1, .cons r rs => .cons r (Reps.erase n rs)
theorem Reps.snoc {vs : List V} {ds : List D} {v : V} {d : D} (r : Reps K ι H vs ds) (q : Rep K ι H v d) : Reps K ι H (vs ++ [v]) (ds ++ [d]) := r.app (.cons q .nil)
theorem Reps.flat : ∀ {vs : List V} {ds : List D} (k : Nat), Reps K ι H vs ds → Reps K ι H (List.replicate k vs).flatten (List.replicate k ds).flatten
  | _, _, 0, _ => .nil
  | vs, ds, k + 1, r => by
    rw [List.replicate_succ, List.replicate_succ, List.flatten_cons, List.flatten_cons]
    exact r.app (Reps.flat k r)
end
def KRep {κ : Type} (K : PySem.W.Frag) (ι : List Addr) (H : Hp) (us : List (κ × V)) (kvs : List (κ × D)) : Prop := us.map (·.1) = kvs.map (·.1) ∧ Reps K ι H (us.map (·.2)) (kvs.map (·.2))
def ORep (K : PySem.W.Frag) (ι : List Addr) (H : Hp) (a : Addr) : O → Prop
  | .lst xs => ∃ vs, H a = some (.lst vs) ∧ Reps K ι H vs xs
  | .dK kvs => ∃ us, H a = some (.dK us) ∧ KRep K ι H us kvs
  | .dT kvs => ∃ us, H a = some (.dT us) ∧ KRep K ι H us kvs
structure HRep (K : PySem.W.Frag) (ι : List Addr) (H : Hp) (h : Hd) : Prop where
  nd : ι.Nodup
  len : ι.length = h.length
  obj : ∀ (i : Nat) (a : Addr) (o : O), ι[i]? = some a → h[i]? = some o → ORep K ι H a o
section
variable {K : PySem.W.Frag} {ι : List Addr} {H : Hp} {h : Hd}
theorem ORep.some {a : Addr} {o : O} (r : ORep K ι H a o) : ∃ u, H a = some u ∧ (∀ vs, u ≠ .tup vs) ∧ (∀ o' u', u ≠ .frz o' u') := by
  cases o with
  | lst xs => obtain ⟨vs, e, _⟩ := r; exact ⟨_, e, fun _ z => (by cases z), fun _ _ z => (by cases z)⟩
  | dK kvs => obtain ⟨us, e, _⟩ := r; exact ⟨_, e, fun _ z => (by cases z), fun _ _ z => (by cases z)⟩
  | dT kvs => obtain ⟨us, e, _⟩ := r; exact ⟨_, e, fun _ z => (by cases z), fun _ _ z => (by cases z)⟩
theorem HRep.at (r : HRep K ι H h) {i : Nat} {a : Addr} (e : ι[i]? = some a) : ∃ o, h[i]? = some o ∧ ORep K ι H a o := by
  have hi : i < h.length := by rw [← r.len]; exact (List.getElem?_eq_some_iff.mp e).1
  exact ⟨h[i], List.getElem?_eq_getElem hi, r.obj i a _ e (List.getElem?_eq_getElem hi)⟩
theorem HRep.addr (r : HRep K ι H h) {i : Nat} {o : O} (e : h[i]? = some o) : ∃ a, ι[i]? = some a ∧ ORep K ι H a o := by
  have hi : i < ι.length := by rw [r.len]; exact (List.getElem?_eq_some_iff.mp e).1
  exact ⟨ι[i], List.getElem?_eq_getElem hi, r.obj i _ o (List.getElem?_eq_getElem hi) e⟩
theorem HRep.notin (r : HRep K ι H h) {p : Addr} (e : H p = none) : p ∉ ι := fun z => by
  obtain ⟨i, hi⟩ := List.getElem?_of_mem z
  obtain ⟨o, _, q⟩ := r.at hi
  obtain ⟨u, q, _⟩ := q.some
  rw [e] at q; cases q
theorem ORep.monoW {ι' : List Addr} {H' : Hp} {a : Addr} {o : O} (g : Gw ι H ι' H') (e : H' a = H a) (r : ORep K ι H a o) : ORep K ι' H' a o := by
  cases o with
  | lst xs => obtain ⟨vs, h1, h2⟩ := r; exact ⟨vs, by rw [e]; exact h1, h2.monoW g⟩
  | dK kvs => obtain ⟨us, h1, h2, h3⟩ := r; exact ⟨us, by rw [e]; exact h1, h2, h3.monoW g⟩
  | dT kvs => obtain ⟨us, h1, h2, h3⟩ := r; exact ⟨us, by rw [e]; exact h1, h2, h3.monoW g⟩
theorem ORep.mono {ι' : List Addr} {H' : Hp} {a : Addr} {o : O} (g : Gr ι H ι' H') (e : H' a = H a) (r : ORep K ι H a o) : ORep K ι' H' a o := r.monoW g.w e
theorem gr_new {p : Addr} (e : H p = none) (o : HO) : Gr ι H ι (upd H p o) :=
  ⟨⟨[], by simp, by simp⟩, fun a vs h => by rw [upd_ne (ne_of_none h e)]; exact h, fun a o u h => by rw [upd_ne (ne_of_none h e)]; exact h, fun a u h _ => by rw [upd_ne (ne_of_none h e)]; exact h, fun a u h => ⟨u, by rw [upd_ne (ne_of_none h e)]; exact h⟩⟩
theorem HRep.aside (r : HRep K ι H h) {p : Addr} (e : H p = none) (o : HO) : HRep K ι (upd H p o) h := by
  refine ⟨r.nd, r.len, fun i a o' e1 e2 => ?_⟩
  have q := r.obj i a o' e1 e2
  obtain ⟨u, hu, _⟩ := q.some
  exact q.mono (gr_new e o) (upd_ne (ne_of_none hu e))
theorem gr_add {p : Addr} (e : H p = none) (o : HO) : Gr ι H (ι ++ [p]) (upd H p o) :=
  ⟨⟨[p], rfl, by simpa using e⟩, (gr_new (ι := ι) e o).tup, (gr_new (ι := ι) e o).frz, (gr_new (ι := ι) e o).oth, (gr_new (ι := ι) e o).kp⟩
theorem HRep.add (r : HRep K ι H h) {p : Addr} (e : H p = none) {o : HO} {ob : O} (q : ORep K (ι ++ [p]) (upd H p o) p ob) : HRep K (ι ++ [p]) (upd H p o) (h ++ [ob]) := by
  refine ⟨?_, by simp [r.len], fun i a o' e1 e2 => ?_⟩
  · rw [List.nodup_append]
    exact ⟨r.nd, by simp, fun a ha b hb z => r.notin e (by rw [List.mem_singleton.mp hb] at z; rw [← z]; exact ha)⟩
  · by_cases hi : i < ι.length
    · rw [List.getElem?_append_left hi] at e1
      rw [List.getElem?_append_left (by rw [← r.len]; exact hi)] at e2
      have q := r.obj i a o' e1 e2
      obtain ⟨u, hu, _⟩ := q.some
      exact q.mono (gr_add e o) (upd_ne (ne_of_none hu e))
    · have hi2 : i < (ι ++ [p]).length := (List.getElem?_eq_some_iff.mp e1).1
      have : i = ι.length := by simp at hi2; omega
      subst this
      rw [List.getElem?_append_right (Nat.le_refl _)] at e1
      rw [r.len, List.getElem?_append_right (Nat.le_refl _)] at e2
      simp at e1 e2
      subst e1 e2
      exact q
theorem gr_put {a : Addr} {i : Nat} (r : HRep K ι H h) (e : ι[i]? = some a) (o : HO) : Gr ι H ι (upd H a o) := by
  obtain ⟨_, _, q⟩ := r.at e
  obtain ⟨u, hu, n1, n2⟩ := q.some
  refine ⟨⟨[], by simp, by simp⟩, fun b vs hb => ?_, fun b o' u' hb => ?_, fun b u' hb hn => ?_, fun b u' hb => ?_⟩
  · rw [upd_ne (fun z => by subst z; rw [hu] at hb; exact n1 _ (Option.some.inj hb))]; exact hb
  · rw [upd_ne (fun z => by subst z; rw [hu] at hb; exact n2 _ _ (Option.some.inj hb))]; exact hb
  · rw [upd_ne (fun z => hn (by subst z; exact List.mem_of_getElem? e))]; exact hb
  · by_cases z : b = a
    · subst z; exact ⟨o, upd_same⟩
    · exact ⟨u', by rw [upd_ne z]; exact hb⟩
theorem HRep.put (r : HRep K ι H h) {a : Addr} {i : Nat} (e : ι[i]? = some a) {o : HO} {ob : O} (q : ORep K ι (upd H a o) a ob) : HRep K ι (upd H a o) (h.set i ob) := by
  refine ⟨r.nd, by rw [List.length_set]; exact r.len, fun j b o' e1 e2 => ?_⟩
  by_cases hj : i = j
  · subst hj
    rw [e] at e1; cases e1
    have hi : i < h.length := by rw [← r.len]; exact (List.getElem?_eq_some_iff.mp e).1
    rw [List.getElem?_set_self hi] at e2; cases e2
    exact q
  · rw [List.getElem?_set_ne hj] at e2
    have hne : b ≠ a := fun z => by
      subst z
      obtain ⟨h1, g1⟩ := List.getElem?_eq_some_iff.mp e
      obtain ⟨h2, g2⟩ := List.getElem?_eq_some_iff.mp e1
      have np := List.pairwise_iff_getElem.mp r.nd
      rcases Nat.lt_or_gt_of_ne hj with l | l
      · exact np i j h1 h2 l (g1.trans g2.symm)
      · exact np j i h2 h1 l (g2.trans g1.symm)
    exact (r.obj j b o' e1 e2).mono (gr_put r e o) (upd_ne hne)
end
structure SRep (K : PySem.W.Frag) (ι : List Addr) (H : Hp) (σ : St) (τ : Sd) : Prop where
  len : σ.length = τ.length
  val : ∀ (i : Nat) (d : D), τ[i]? = some (some d) → ∃ v, σ[i]? = some (some v) ∧ Rep K ι H v d
theorem SRep.mono {K : PySem.W.Frag} {ι ι' : List Addr} {H H' : Hp} {σ : St} {τ : Sd} (g : Gr ι H ι' H') (s : SRep K ι H σ τ) : SRep K ι' H' σ τ :=
  ⟨s.len, fun i d e => let ⟨v, h1, h2⟩ := s.val i d e; ⟨v, h1, h2.mono g⟩⟩
theorem SRep.set {K : PySem.W.Frag} {ι : List Addr} {H : Hp} {σ : St} {τ : Sd} (s : SRep K ι H σ τ) {v : V} {d : D} (r : Rep K ι H v d) (i : Nat) : SRep K ι H (σ.set i (some v)) (τ.set i (some d)) := by
  refine ⟨by simp [s.len], fun j d' e => ?_⟩
  by_cases hj : i = j
  · subst hj
    have hi : i < τ.length := by
      have := (List.getElem?_eq_some_iff.mp e).1
      simpa using this
    rw [List.getElem?_set_self hi] at e
    cases e
    exact ⟨v, by rw [List.getElem?_set_self (by rw [s.len]; exact hi)], r⟩
  · rw [List.getElem?_set_ne hj] at e ⊢
    exact s.val j d' e
abbrev XD := Str → List Addr → Hp → Hd → Prop
def out {α β : Type} (K : PySem.W.Frag) (E : XD) (Rp : List Addr → Hp → β → α → Prop) (ι : List Addr) (H : Hp) (r : R α) (Q : β → Hp → Prop) : Prop :=
  match r with
  | .ok a h => ∀ ι' H' b, Gr ι H ι' H' → Rp ι' H' b a → HRep K ι' H' h → Q b H'
  | .ex c h => ∀ ι' H', Gr ι H ι' H' → HRep K ι' H' h → E c ι' H' h
  | .no => False
theorem out_mono {α β : Type} {K : PySem.W.Frag} {E : XD} {Rp : List Addr → Hp → β → α → Prop} {ι ι1 : List Addr} {H H1 : Hp} {r : R α} {Q : β → Hp → Prop} (o : out K E Rp ι H r Q) (g : Gr ι H ι1 H1) : out K E Rp ι1 H1 r Q := by
  cases r with
  | ok a h => exact fun ι' H' b g' => o ι' H' b (g.trans g')
  | ex c h => exact fun ι' H' g' => o ι' H' (g.trans g')
  | no => exact o
theorem out_bind {α β γ δ : Type} {K : PySem.W.Frag} {E : XD} {Rp : List Addr → Hp → β → α → Prop} {Sp : List Addr → Hp → δ → γ → Prop} {ι : List Addr} {H : Hp} {r : R α} {k : α → Hd → R γ} {Q : δ → Hp → Prop} {P : β → Hp → Prop}
    (o : out K E Sp ι H (r.bind k) Q) (hP : ∀ a h ι1 H1 b, Gr ι H ι1 H1 → Rp ι1 H1 b a → HRep K ι1 H1 h → out K E Sp ι1 H1 (k a h) Q → P b H1) : out K E Rp ι H r P := by
  cases r with
  | ok a h => exact fun ι' H' b g r' hr => hP a h ι' H' b g r' hr (out_mono o g)
  | ex c h => exact o
  | no => exact o
abbrev repD (K : PySem.W.Frag) : List Addr → Hp → V → D → Prop := fun ι H v d => Rep K ι H v d
abbrev repL (K : PySem.W.Frag) : List Addr → Hp → List V → List D → Prop := fun ι H v d => Reps K ι H v d
abbrev repB : List Addr → Hp → Bool → Bool → Prop := fun _ _ a b => a = b
abbrev repO : List Addr → Hp → Option Int → Option Int → Prop := fun _ _ a b => a = b
def outS (K : PySem.W.Frag) (E : XD) (ι : List Addr) (H : Hp) (r : Fl) (N : Ends) : Prop :=
  match r with
  | .nx τ h => ∀ ι' H' σ, Gr ι H ι' H' → SRep K ι' H' σ τ → HRep K ι' H' h → N.nx σ H'
  | .bk τ h => ∀ ι' H' σ, Gr ι H ι' H' → SRep K ι' H' σ τ → HRep K ι' H' h → N.bk σ H'
  | .ct τ h => ∀ ι' H' σ, Gr ι H ι' H' → SRep K ι' H' σ τ → HRep K ι' H' h → N.ct σ H'
  | .rt d h => ∀ ι' H' v, Gr ι H ι' H' → Rep K ι' H' v d → HRep K ι' H' h → N.rt v H'
  | .ex c h => ∀ ι' H', Gr ι H ι' H' → HRep K ι' H' h → E c ι' H' h
  | .no => False
theorem outS_mono {K : PySem.W.Frag} {E : XD} {ι ι1 : List Addr} {H H1 : Hp} {r : Fl} {N : Ends} (o : outS K E ι H r N) (g : Gr ι H ι1 H1) : outS K E ι1 H1 r N := by
  cases r with
  | nx τ h => exact fun ι' H' b g' => o ι' H' b (g.trans g')
  | bk τ h => exact fun ι' H' b g' => o ι' H' b (g.trans g')
  | ct τ h => exact fun ι' H' b g' => o ι' H' b (g.trans g')
  | rt d h => exact fun ι' H' b g' => o ι' H' b (g.trans g')
  | ex c h => exact fun ι' H' g' => o ι' H' (g.trans g')
  | no => exact o
theorem out_fl {α β : Type} {K : PySem.W.Frag} {E : XD} {Rp : List Addr → Hp → β → α → Prop} {ι : List Addr} {H : Hp} {r : R α} {k : α → Hd → Fl} {N : Ends} {P : β → Hp → Prop}
    (o : outS K E ι H (r.fl k) N) (hP : ∀ a h ι1 H1 b, Gr ι H ι1 H1 → Rp ι1 H1 b a → HRep K ι1 H1 h → outS K E ι1 H1 (k a h) N → P b H1) : out K E Rp ι H r P := by
  cases r with
  | ok a h => exact fun ι' H' b g r' hr => hP a h ι' H' b g r' hr (outS_mono o g)
  | ex c h => exact o
  | no => exact o
def lift {α β : Type} (K : PySem.W.Frag) (E : XD) (Rp : List Addr → Hp → β → α → Prop) (f : Sd → Hd → R α) : St → Hp → (β → Hp → Prop) → Prop := fun σ H Q =>
  ∃ ι τ h, SRep K ι H σ τ ∧ HRep K ι H h ∧ out K E Rp ι H (f τ h) Q
def liftS (K : PySem.W.Frag) (E : XD) (f : SS) : TS := fun N σ H => ∃ ι τ h, SRep K ι H σ τ ∧ HRep K ι H h ∧ outS K E ι H (f τ h) N
abbrev ME (X : Cx) (E : XD) (e : Expr) (f : SE) : Prop := PE X e (lift X.K E (repD X.K) f)
abbrev MT (X : Cx) (E : XD) (e : Expr) (f : ST) : Prop := PT X e (lift X.K E repB f)
abbrev MW (X : Cx) (E : XD) (e : Expr) (f : ST) : Prop := PW X e (lift X.K E repB f)
abbrev MA (X : Cx) (E : XD) (es : List Expr) (f : SA) : Prop := PA X es (lift X.K E (repL X.K) f)
abbrev MS (X : Cx) (E : XD) (st : Stmt) (f : SS) : Prop := PS X st (liftS X.K E f)
abbrev MSs (X : Cx) (E : XD) (st : List Stmt) (f : SS) : Prop := PSs X st (liftS X.K E f)
theorem PE.weak {X : Cx} {e : Expr} {t t' : TE} (h : PE X e t) (i : ∀ σ H Q, t' σ H Q → t σ H Q) : PE X e t' := fun pins s σ H Q I q => h pins s σ H Q I (i _ _ _ q)
theorem PT.weak {X : Cx} {e : Expr} {t t' : TT} (h : PT X e t) (i : ∀ σ H Q, t' σ H Q → t σ H Q) : PT X e t' := fun pins s σ H Q I q => h pins s σ H Q I (i _ _ _ q)
theorem PW.weak {X : Cx} {e : Expr} {t t' : TT} (h : PW X e t) (i : ∀ σ H Q, t' σ H Q → t σ H Q) : PW X e t' := fun wh pins s σ H Q I q => h wh pins s σ H Q I (i _ _ _ q)
theorem PA.weak {X : Cx} {e : List Expr} {t t' : TA} (h : PA X e t) (i : ∀ σ H Q, t' σ H Q → t σ H Q) : PA X e t' := fun pos pins s σ H Q I q => h pos pins s σ H Q I (i _ _ _ q)
theorem PS.weak {X : Cx} {e : Stmt} {t t' : TS} (h : PS X e t) (i : ∀ N σ H, t' N σ H → t N σ H) : PS X e t' := fun pins s σ H N I q => h pins s σ H N I (i _ _ _ q)
theorem PSs.weak {X : Cx} {e : List Stmt} {t t' : TS} (h : PSs X e t) (i : ∀ N σ H, t' N σ H → t N σ H) : PSs X e t' := fun pins s σ H N I q => h pins s σ H N I (i _ _ _ q)
end MI
set_option Elab.async false
set_option linter.all false
set_option maxRecDepth 100000
set_option maxHeartbeats 4000000
namespace MI
open PySem L2
abbrev LINE : Nat := 16777216
theorem ll {n : Nat} (h : n ≤ LINE) : n ≤ sizeLine := le_line h
def sV (i : Nat) : SE := fun τ h => match τ[i]? with | some (some d) => .ok d h | _ => .no
def sC (d : D) : SE := fun _ h => .ok d h
section
variable {X : Cx} {E : XD} {a b c e : Expr} {fa fb fc : SE} {pos : Pos}
theorem me_v (i : Nat) {x : Str} {pos : Pos} (hN : X.N[i]? = some x := by rfl) (hv : Vis X.env.scope x := by first | exact Or.inl rfl | exact Or.inr (Or.inl rfl) | exact Or.inr (Or.inr rfl)) (hd : (x == ("__debug__" : Str)) = false := by decide)
    (hcd : (x == ("__classdict__" : Str)) = false := by decide) : ME X E (.Name x pos) (sV i) := by
  refine PE.weak (pe_var hN hv hd hcd) fun σ H Q ⟨ι, τ, h, S, Rh, o⟩ => ?_
  unfold sV at o
  split at o
  · rename_i d e
    obtain ⟨v, h1, h2⟩ := S.val i d e
    exact ⟨v, h1, o ι H v (.refl _ _) h2 Rh⟩
  · exact o.elim
theorem me_c {v : V} {d : D} (h : PE X e (tC v)) (r : ∀ ι H, Rep X.K ι H v d) : ME X E e (sC d) :=
  PE.weak h fun σ H Q ⟨ι, τ, h, S, Rh, o⟩ => o ι H v (.refl _ _) (r ι H) Rh
theorem me_int {i j pos} : ME X E (.Constant (.int i) j pos) (sC (.int i)) := me_c pe_int fun _ _ => .int i
theorem me_bl {i j pos} : ME X E (.Constant (.bool i) j pos) (sC (.bl i)) := me_c pe_bl fun _ _ => .bl i
theorem me_str {i j pos} : ME X E (.Constant (.str i) j pos) (sC (.str i)) := me_c pe_str fun _ _ => .str i
theorem me_non {j pos} : ME X E (.Constant .none j pos) (sC .non) := me_c pe_non fun _ _ => .non
theorem me_ty {x : Str} {n : String} {pos : Pos} (hg : Gl X x) (hm : X.mg x = none) (hv : bootBuiltins x = some (.type n)) (hn : x ≠ "__name__" := by decide) (hd : (x == ("__debug__" : Str)) = false := by decide) : ME X E (.Name x pos) (sC (.ty n)) :=
  me_c (pe_bltn (v := .ty n) hg hm hv rfl hn hd) fun _ _ => .ty n
def s2 (g : D → D → Hd → R D) (fa fb : SE) : SE := fun τ h => (fa τ h).bind fun x h1 => (fb τ h1).bind fun y h2 => g x y h2
def s1 (g : D → Hd → R D) (fa : SE) : SE := fun τ h => (fa τ h).bind g
def Snd2 (K : PySem.W.Frag) (g : D → D → Hd → R D) (r : R2) : Prop := ∀ (E : XD) ι H h x y dx dy Q, Rep K ι H x dx → Rep K ι H y dy → HRep K ι H h → out K E (repD K) ι H (g dx dy h) Q → r x y H Q
def Snd1 (K : PySem.W.Frag) (g : D → Hd → R D) (r : V → Hp → VK → Prop) : Prop := ∀ (E : XD) ι H h x dx Q, Rep K ι H x dx → HRep K ι H h → out K E (repD K) ι H (g dx h) Q → r x H Q
def SndL (K : PySem.W.Frag) (g : List D → Hd → R D) (r : List V → Hp → VK → Prop) : Prop := ∀ (E : XD) ι H h xs ds Q, Reps K ι H xs ds → HRep K ι H h → out K E (repD K) ι H (g ds h) Q → r xs H Q
theorem bin2 {g : D → D → Hd → R D} {r : R2} {K : PySem.W.Frag} (hs : Snd2 K g r) {σ : St} {H : Hp} {Q : VK} (q : lift K E (repD K) (s2 g fa fb) σ H Q) : tOp r (lift K E (repD K) fa) (lift K E (repD K) fb) σ H Q := by
  obtain ⟨ι, τ, h, S, Rh, o⟩ := q
  refine ⟨ι, τ, h, S, Rh, out_bind o fun d h1 ι1 H1 v g1 r1 hr1 o1 => ?_⟩
  refine ⟨ι1, τ, h1, S.mono g1, hr1, out_bind o1 fun d2 h2 ι2 H2 u g2 r2 hr2 o2 => ?_⟩
  exact hs E ι2 H2 h2 v u d d2 Q (r1.mono g2) r2 hr2 o2
theorem me_op {op : Operator} {r : R2} {g : D → D → Hd → R D} (ho : OpR X (binaryOp op) r) (hs : Snd2 X.K g r) (ha : ME X E a fa) (hb : ME X E b fb) : ME X E (.BinOp a op b pos) (s2 g fa fb) :=
  PE.weak (pe_op ho ha hb) fun σ H Q q => bin2 hs q
theorem me_cmpO {op : CmpOp} {r : R2} {g : D → D → Hd → R D} (ho : OpR X (compareOp op) r) (hs : Snd2 X.K g r) (ha : ME X E a fa) (hb : ME X E b fb) (hm : behindInMarks op b = false) : ME X E (.Compare a [op] [b] pos) (s2 g fa fb) :=
  PE.weak (pe_cmpR ho ha hb hm) fun σ H Q q => bin2 hs q
theorem me_un {op : UnaryOp} {r : V → Hp → VK → Prop} {g : D → Hd → R D} (ho : UnR X (unaryOp op) r) (hs : Snd1 X.K g r) (ha : ME X E a fa) : ME X E (.UnaryOp op a pos) (s1 g fa) := by
  refine PE.weak (pe_un ho ha) fun σ H Q ⟨ι, τ, h, S, Rh, o⟩ => ?_
  exact ⟨ι, τ, h, S, Rh, out_bind o fun d h1 ι1 H1 v g1 r1 hr1 o1 => hs E ι1 H1 h1 v d Q r1 hr1 o1⟩
theorem me_ix {r : R2} {g : D → D → Hd → R D} (ho : IxR X r) (hs : Snd2 X.K g r) (ha : ME X E a fa) (hb : ME X E b fb) (hp : PlainIx b) : ME X E (.Subscript a b pos) (s2 g fa fb) :=
  PE.weak (pe_ix ho ha hb hp) fun σ H Q q => bin2 hs q
def asB (d : D) (h : Hd) : R Bool := match d with | .bl b => .ok b h | _ => .no
def sT (f : SE) : ST := fun τ h => (f τ h).bind asB
theorem test_of {K : PySem.W.Frag} {t : TE} {f : SE} (hi : ∀ σ H Q, lift K E (repD K) f σ H Q → t σ H Q) {σ : St} {H : Hp} {Q : Bool → Hp → Prop} (q : lift K E repB (sT f) σ H Q) : tTest t σ H Q := by
  refine hi σ H _ ?_
  obtain ⟨ι, τ, h, S, Rh, o⟩ := q
  refine ⟨ι, τ, h, S, Rh, out_bind o fun d h1 ι1 H1 v g1 r1 hr1 o1 => ?_⟩
  cases r1 with
  | bl b => exact ⟨b, rfl, o1 ι1 H1 b (.refl _ _) rfl hr1⟩
  | _ => exact o1.elim
theorem mt_cmpO {op : CmpOp} {r : R2} {g : D → D → Hd → R D} (ho : OpR X (compareOp op) r) (hs : Snd2 X.K g r) (ha : ME X E a fa) (hb : ME X E b fb) (hm : behindInMarks op b = false) : MT X E (.Compare a [op] [b] pos) (sT (s2 g fa fb)) :=
  PT.weak (pt_cmpR ho ha hb hm) fun σ H Q q => test_of (fun _ _ _ => bin2 hs) q
def sCh (g g' : D → D → Hd → R D) (fa fb fc : SE) : SE := fun τ h => (fa τ h).bind fun x h1 => (fb τ h1).bind fun y h2 => (g x y h2).bind fun z h3 => match z with
  | .bl true => (fc τ h3).bind fun w h4 => g' y w h4
  | .bl false => .ok (.bl false) h3
  | _ => .no
theorem chain2 {K : PySem.W.Frag} {g g' : D → D → Hd → R D} {r r' : R2} (hs : Snd2 K g r) (hs' : Snd2 K g' r') {σ : St} {H : Hp} {Q : VK} (q : lift K E (repD K) (sCh g g' fa fb fc) σ H Q) :
    tChain r r' (lift K E (repD K) fa) (lift K E (repD K) fb) (lift K E (repD K) fc) σ H Q := by
  obtain ⟨ι, τ, h, S, Rh, o⟩ := q
  refine ⟨ι, τ, h, S, Rh, out_bind o fun d h1 ι1 H1 v g1 r1 hr1 o1 => ?_⟩
  refine ⟨ι1, τ, h1, S.mono g1, hr1, out_bind o1 fun d2 h2 ι2 H2 u g2 r2 hr2 o2 => ?_⟩
  refine hs E ι2 H2 h2 v u d d2 _ (r1.mono g2) r2 hr2 (out_bind o2 fun d3 h3 ι3 H3 z g3 r3 hr3 o3 => ?_)
  cases r3 with
  | bl k =>
    refine ⟨k, rfl, ?_⟩
    cases k with
    | true =>
      rw [if_pos rfl]
      refine ⟨ι3, τ, h3, ((S.mono g1).mono g2).mono g3, hr3, out_bind o3 fun d4 h4 ι4 H4 w g4 r4 hr4 o4 => ?_⟩
      exact hs' E ι4 H4 h4 u w d2 d4 Q ((r2.mono g3).mono g4) r4 hr4 o4
    | false =>
      rw [if_neg Bool.false_ne_true]
      exact o3 ι3 H3 (.bl false) (.refl _ _) (.bl false) hr3
  | _ => exact o3.elim
theorem me_chain {op op' : CmpOp} {r r' : R2} {g g' : D → D → Hd → R D} (ho : OpR X (compareOp op) r) (ho' : OpR X (compareOp op') r') (hs : Snd2 X.K g r) (hs' : Snd2 X.K g' r') (ha : ME X E a fa) (hb : ME X E b fb) (hc : ME X E c fc)
    (hm : lastMarks [op, op'] [b, c] = false := by with_unfolding_all rfl) : ME X E (.Compare a [op, op'] [b, c] pos) (sCh g g' fa fb fc) :=
  PE.weak (pe_chain ho ho' ha hb hc hm) fun σ H Q q => chain2 hs hs' q
def tru (d : D) (h : Hd) : R Bool := match d with
  | .non => .ok false h
  | .bl b => .ok b h
  | .int i => .ok (i != 0) h
  | .str x => if x.length ≤ LINE then .ok ((x.length : Int) != 0) h else .no
  | .tup xs => .ok (!xs.isEmpty) h
  | .rol xs => .ok (!xs.isEmpty) h
  | .ref i => match h[i]? with
    | some (.lst xs) => .ok (!xs.isEmpty) h
    | some (.dK kvs) => .ok (!kvs.isEmpty) h
    | _ => .no
  | _ => .no
theorem Reps.emp {K : PySem.W.Frag} {ι : List Addr} {H : Hp} {vs : List V} {ds : List D} (r : Reps K ι H vs ds) : vs.isEmpty = ds.isEmpty := by cases r <;> rfl
theorem KRep.emp {κ : Type} {K : PySem.W.Frag} {ι : List Addr} {H : Hp} {us : List (κ × V)} {kvs : List (κ × D)} (r : KRep K ι H us kvs) : us.isEmpty = kvs.isEmpty := by
  have := congrArg List.length r.1
  cases us <;> cases kvs <;> simp at this ⊢
theorem tru_snd {K : PySem.W.Frag} {ι : List Addr} {H : Hp} {h : Hd} {x : V} {d : D} {Q : Bool → Hp → Prop} (r : Rep K ι H x d) (hr : HRep K ι H h) (o : out K E repB ι H (tru d h) Q) : ∃ k, TruV K x H k ∧ Q k H := by
  cases r with
  | non => exact ⟨false, rfl, o ι H _ (.refl _ _) rfl hr⟩
  | bl b => exact ⟨b, rfl, o ι H _ (.refl _ _) rfl hr⟩
  | int i => exact ⟨_, rfl, o ι H _ (.refl _ _) rfl hr⟩
  | str x =>
    by_cases hl : x.length ≤ LINE
    · simp only [tru, if_pos hl] at o
      exact ⟨_, ⟨ll hl, rfl⟩, o ι H _ (.refl _ _) rfl hr⟩
    · simp only [tru, if_neg hl] at o
      exact o.elim
  | ty n => exact o.elim
  | rod _ _ _ => exact o.elim
  | scr _ _ => exact o.elim
  | rdT _ _ _ => exact o.elim
  | exc _ _ _ => exact o.elim
  | tup e rs => exact ⟨_, .inr (.inl ⟨_, SqT.of e, rfl⟩), by rw [rs.emp]; exact o ι H _ (.refl _ _) rfl hr⟩
  | rol e rs => exact ⟨_, .inl ⟨_, e.l, rfl⟩, by rw [rs.emp]; exact o ι H _ (.refl _ _) rfl hr⟩
  | @ref a i e =>
    obtain ⟨ob, h1, h2⟩ := hr.at e
    simp only [tru, h1] at o
    cases ob with
    | lst xs =>
      obtain ⟨vs, h3, h4⟩ := h2
      exact ⟨_, .inl ⟨_, SqL.of h3, rfl⟩, by rw [h4.emp]; exact o ι H _ (.refl _ _) rfl hr⟩
    | dK kvs =>
      obtain ⟨us, h3, h4⟩ := h2
      exact ⟨_, .inr (.inr ⟨_, h3, rfl⟩), by rw [h4.emp]; exact o ι H _ (.refl _ _) rfl hr⟩
    | dT kvs => exact o.elim
def sTru (f : SE) : ST := fun τ h => (f τ h).bind tru
theorem mt_val (ha : ME X E a fa) (he : ∀ whole, isTrue a X.env whole = (do let v ← whole; standAt a.pos; holding [v] (truthy v)) := by intro _; rfl) : MT X E a (sTru fa) := by
  refine PT.weak (pt_truth ha he) fun σ H Q ⟨ι, τ, h, S, Rh, o⟩ => ?_
  exact ⟨ι, τ, h, S, Rh, out_bind o fun d h1 ι1 H1 v g1 r1 hr1 o1 => tru_snd r1 hr1 o1⟩
def sAnd (f g : ST) : ST := fun τ h => (f τ h).bind fun b h1 => if b = true then g τ h1 else .ok false h1
def sOr (f g : ST) : ST := fun τ h => (f τ h).bind fun b h1 => if b = true then .ok true h1 else g τ h1
def sNot (f : ST) : ST := fun τ h => (f τ h).bind fun b h1 => .ok (!b) h1
variable {ga gb : ST}
theorem mw_and1 (ha : MT X E a ga) : MW X E (.BoolOp .And [a] pos) ga := pw_and1 ha
theorem mw_or1 (ha : MT X E a ga) : MW X E (.BoolOp .Or [a] pos) ga := pw_or1 ha
theorem mw_and {rest : List Expr} (ha : MT X E a ga) (hb : MW X E (.BoolOp .And (b :: rest) pos) gb) : MW X E (.BoolOp .And (a :: b :: rest) pos) (sAnd ga gb) := by
  refine PW.weak (pw_and ha hb) fun σ H Q ⟨ι, τ, h, S, Rh, o⟩ => ?_
  refine ⟨ι, τ, h, S, Rh, out_bind o fun d h1 ι1 H1 v g1 r1 hr1 o1 => ?_⟩
  cases r1
  cases d with
  | true => exact ⟨ι1, τ, h1, S.mono g1, hr1, o1⟩
  | false => exact o1 ι1 H1 false (.refl _ _) rfl hr1
theorem mw_or {rest : List Expr} (ha : MT X E a ga) (hb : MW X E (.BoolOp .Or (b :: rest) pos) gb) : MW X E (.BoolOp .Or (a :: b :: rest) pos) (sOr ga gb) := by
  refine PW.weak (pw_or ha hb) fun σ H Q ⟨ι, τ, h, S, Rh, o⟩ => ?_
  refine ⟨ι, τ, h, S, Rh, out_bind o fun d h1 ι1 H1 v g1 r1 hr1 o1 => ?_⟩
  cases r1
  cases d with
  | true => exact o1 ι1 H1 true (.refl _ _) rfl hr1
  | false => exact ⟨ι1, τ, h1, S.mono g1, hr1, o1⟩
theorem mt_not (ha : MT X E a ga) : MT X E (.UnaryOp .Not a pos) (sNot ga) := by
  refine PT.weak (pt_not ha) fun σ H Q ⟨ι, τ, h, S, Rh, o⟩ => ?_
  refine ⟨ι, τ, h, S, Rh, out_bind o fun d h1 ι1 H1 v g1 r1 hr1 o1 => ?_⟩
  cases r1
  exact o1 ι1 H1 _ (.refl _ _) rfl hr1
def sAndV (f g : SE) : SE := fun τ h => (f τ h).bind fun d h1 => match d with | .bl true => g τ h1 | .bl false => .ok (.bl false) h1 | _ => .no
def sOrV (f g : SE) : SE := fun τ h => (f τ h).bind fun d h1 => match d with | .bl true => .ok (.bl true) h1 | .bl false => g τ h1 | _ => .no
def sNotV (f : SE) : SE := fun τ h => (f τ h).bind fun d h1 => match d with | .bl b => .ok (.bl (!b)) h1 | _ => .no
theorem me_one {op} (ha : ME X E a fa) : ME X E (.BoolOp op [a] pos) fa := pe_one ha
theorem me_and {rest : List Expr} (ha : ME X E a fa) (hb : ME X E (.BoolOp .And (b :: rest) pos) fb) : ME X E (.BoolOp .And (a :: b :: rest) pos) (sAndV fa fb) := by
  refine PE.weak (pe_and ha hb) fun σ H Q ⟨ι, τ, h, S, Rh, o⟩ => ?_
  refine ⟨ι, τ, h, S, Rh, out_bind o fun d h1 ι1 H1 v g1 r1 hr1 o1 => ?_⟩
  cases r1 with
  | bl k =>
    refine ⟨k, rfl, ?_⟩
    cases k with
    | true => exact ⟨ι1, τ, h1, S.mono g1, hr1, o1⟩
    | false => exact o1 ι1 H1 _ (.refl _ _) (.bl _) hr1
  | _ => exact o1.elim
theorem me_not (ha : ME X E a fa) : ME X E (.UnaryOp .Not a pos) (sNotV fa) := by
  refine PE.weak (pe_not ha) fun σ H Q ⟨ι, τ, h, S, Rh, o⟩ => ?_
  refine ⟨ι, τ, h, S, Rh, out_bind o fun d h1 ι1 H1 v g1 r1 hr1 o1 => ?_⟩
  cases r1 with
  | bl k => exact ⟨k, rfl, o1 ι1 H1 _ (.refl _ _) (.bl _) hr1⟩
  | _ => exact o1.elim
def sIfE (c : ST) (f g : SE) : SE := fun τ h => (c τ h).bind fun b h1 => if b = true then f τ h1 else g τ h1
def sNil : SA := fun _ h => .ok [] h
def sCons (f : SE) (g : SA) : SA := fun τ h => (f τ h).bind fun d h1 => (g τ h1).bind fun ds h2 => .ok (d :: ds) h2
variable {es : List Expr} {ka : SA}
theorem ma_nil : MA X E [] sNil := PA.weak pa_nil fun σ H Q ⟨ι, τ, h, S, Rh, o⟩ => o ι H [] (.refl _ _) .nil Rh
theorem ma_cons (ha : ME X E e fa) (hr : MA X E es ka) (hs : starEach (e :: es) X.env = (false, eval e X.env) :: starEach es X.env := by rfl) : MA X E (e :: es) (sCons fa ka) := by
  refine PA.weak (pa_cons ha hr hs) fun σ H Q ⟨ι, τ, h, S, Rh, o⟩ => ?_
  refine ⟨ι, τ, h, S, Rh, out_bind o fun d h1 ι1 H1 v g1 r1 hr1 o1 => ?_⟩
  refine ⟨ι1, τ, h1, S.mono g1, hr1, out_bind o1 fun d2 h2 ι2 H2 u g2 r2 hr2 o2 => ?_⟩
  exact o2 ι2 H2 _ (.refl _ _) (.cons (r1.mono g2) r2) hr2
def gTup (ds : List D) (h : Hd) : R D := if ds.length ≤ LINE then .ok (.tup ds) h else .no
def gLst (ds : List D) (h : Hd) : R D := if ds.length ≤ LINE then .ok (.ref h.length) (h ++ [.lst ds]) else .no
def sA (g : List D → Hd → R D) (k : SA) : SE := fun τ h => (k τ h).bind g
theorem new_tup {K : PySem.W.Frag} {ι : List Addr} {H : Hp} {h : Hd} {vs : List V} {ds : List D} {Q : VK} (r : Reps K ι H vs ds) (hr : HRep K ι H h) (o : out K E (repD K) ι H (.ok (.tup ds) h) Q) : ∀ p, H p = none → Q (.ref p) (upd H p (.tup vs)) := fun p hp =>
  o ι _ _ (gr_new hp _) (.tup upd_same (r.mono (gr_new hp _))) (hr.aside hp _)
theorem new_lst {K : PySem.W.Frag} {ι : List Addr} {H : Hp} {h : Hd} {vs : List V} {ds : List D} {Q : VK} (r : Reps K ι H vs ds) (hr : HRep K ι H h) (o : out K E (repD K) ι H (.ok (.ref h.length) (h ++ [.lst ds])) Q) : ∀ p, H p = none → Q (.ref p) (upd H p (.lst vs)) := fun p hp =>
  o (ι ++ [p]) _ _ (gr_add hp _) (.ref (by rw [List.getElem?_append_right (by rw [hr.len]; exact Nat.le_refl _), hr.len]; simp)) (hr.add hp ⟨_, upd_same, r.mono (gr_add hp _)⟩)
theorem put_lst {K : PySem.W.Frag} {ι : List Addr} {H : Hp} {h : Hd} {i : Nat} {a : Addr} {vs : List V} {ds : List D} {d : D} {v : V} {Q : VK} (r : Reps K ι H vs ds) (hr : HRep K ι H h) (hi : ι[i]? = some a) (rd : Rep K ι H v d) (o : out K E (repD K) ι H (.ok d (h.set i (.lst ds))) Q) : Q v (upd H a (.lst vs)) :=
  o ι _ _ (gr_put hr hi _) (rd.mono (gr_put hr hi _)) (hr.put hi ⟨_, upd_same, r.mono (gr_put hr hi _)⟩)
theorem me_tup {x1} (h : MA X E es ka) : ME X E (.Tuple es x1 pos) (sA gTup ka) := by
  refine PE.weak (pe_tup h) fun σ H Q ⟨ι, τ, h, S, Rh, o⟩ => ?_
  refine ⟨ι, τ, h, S, Rh, out_bind o fun d h1 ι1 H1 v g1 r1 hr1 o1 => ?_⟩
  unfold gTup at o1
  split at o1
  · rename_i hl
    exact ⟨ll (by rw [r1.len]; exact hl), new_tup r1 hr1 o1⟩
  · exact o1.elim
theorem me_lst (h : MA X E es ka) : ME X E (.List es pos) (sA gLst ka) := by
  refine PE.weak (pe_lst h) fun σ H Q ⟨ι, τ, h, S, Rh, o⟩ => ?_
  refine ⟨ι, τ, h, S, Rh, out_bind o fun d h1 ι1 H1 v g1 r1 hr1 o1 => ?_⟩
  unfold gLst at o1
  split at o1
  · rename_i hl
    exact ⟨ll (by rw [r1.len]; exact hl), new_lst r1 hr1 o1⟩
  · exact o1.elim
theorem me_fn {x : Str} {p : Pos} {id : String} {r : List V → Hp → VK → Prop} {g : List D → Hd → R D} (hc : CallR X (.builtin id) r) (hs : SndL X.K g r) (hg : Gl X x) (hm : X.mg x = none) (hv : bootBuiltins x = some (.builtin id)) (ha : MA X E (e :: es) ka) (hn : x ≠ "__name__" := by decide) (hdb : (x == ("__debug__" : Str)) = false := by decide)
    (he : starEach (e :: es) X.env = (false, eval e X.env) :: starEach es X.env := by rfl) (hpl : (backTo pos (starEach es X.env)).any (·.1) = false := by rfl) : ME X E (.Call (.Name x p) (e :: es) [] pos) (sA g ka) := by
  refine PE.weak (pe_callB hc hg hm hv ha hn hdb he hpl) fun σ H Q ⟨ι, τ, h, S, Rh, o⟩ => ?_
  exact ⟨ι, τ, h, S, Rh, out_bind o fun d h1 ι1 H1 v g1 r1 hr1 o1 => hs E ι1 H1 h1 v d Q r1 hr1 o1⟩
theorem me_fnTy {x : Str} {p : Pos} {id : String} {r : List V → Hp → VK → Prop} {g : List D → Hd → R D} (hc : CallR X (.type id) r) (hs : SndL X.K g r) (hg : Gl X x) (hm : X.mg x = none) (hv : bootBuiltins x = some (.type id)) (ha : MA X E (e :: es) ka) (hn : x ≠ "__name__" := by decide) (hdb : (x == ("__debug__" : Str)) = false := by decide)
    (he : starEach (e :: es) X.env = (false, eval e X.env) :: starEach es X.env := by rfl) (hpl : (backTo pos (starEach es X.env)).any (·.1) = false := by rfl) : ME X E (.Call (.Name x p) (e :: es) [] pos) (sA g ka) := by
  refine PE.weak (pe_callTy hc hg hm hv ha hn hdb he hpl) fun σ H Q ⟨ι, τ, h, S, Rh, o⟩ => ?_
  exact ⟨ι, τ, h, S, Rh, out_bind o fun d h1 ι1 H1 v g1 r1 hr1 o1 => hs E ι1 H1 h1 v d Q r1 hr1 o1⟩
end
end MI
set_option Elab.async false
set_option linter.all false
set_option maxRecDepth 100000
set_option maxHeartbeats 4000000
namespace MI
open PySem L2
def sSeq (f g : SS) : SS := fun τ h => match f τ h with | .nx τ1 h1 => g τ1 h1 | r => r
def sNx : SS := fun τ h => .nx τ h
def sRet (f : SE) : SS := fun τ h => (f τ h).fl fun d h1 => .rt d h1
def sDrop (f : SE) : SS := fun τ h => (f τ h).fl fun _ h1 => .nx τ h1
def sIf (c : ST) (f g : SS) : SS := fun τ h => (c τ h).fl fun b h1 => if b = true then f τ h1 else g τ h1
def sSet (i : Nat) (f : SE) : SS := fun τ h => (f τ h).fl fun d h1 => .nx (τ.set i (some d)) h1
def sAug (i : Nat) (g : D → D → Hd → R D) (f : SE) : SS := fun τ h => match τ[i]? with
  | some (some x) => (f τ h).fl fun y h1 => (g x y h1).fl fun z h2 => .nx (τ.set i (some z)) h2
  | _ => .no
section
variable {X : Cx} {E : XD} {e o : Expr} {es : List Expr} {fa fb fc : SE} {ga : ST} {st : Stmt} {sts a b : List Stmt} {f g : SS} {pos : Pos}
theorem mss_nil : MSs X E [] sNx := PSs.weak pss_nil fun N σ H ⟨ι, τ, h, S, Rh, o⟩ => o ι H σ (.refl _ _) S Rh
theorem seq_of {K : PySem.W.Frag} {N : Ends} {σ : St} {H : Hp} (q : liftS K E (sSeq f g) N σ H) : liftS K E f { N with nx := liftS K E g N } σ H := by
  obtain ⟨ι, τ, h, S, Rh, o⟩ := q
  refine ⟨ι, τ, h, S, Rh, ?_⟩
  unfold sSeq at o
  cases hf : f τ h with
  | nx τ1 h1 =>
    rw [hf] at o
    exact fun ι1 H1 σ1 g1 S1 R1 => ⟨ι1, τ1, h1, S1, R1, outS_mono o g1⟩
  | _ => rw [hf] at o; exact o
theorem mss_cons (h1 : MS X E st f) (h2 : MSs X E sts g) : MSs X E (st :: sts) (sSeq f g) := PSs.weak (pss_cons h1 h2) fun N σ H q => seq_of q
theorem mss_one (h1 : MS X E st f) : MSs X E [st] f := pss_one h1
theorem ms_ret (he : ME X E e fa) : MS X E (.Return (some e) pos) (sRet fa) := by
  refine PS.weak (ps_ret he) fun N σ H ⟨ι, τ, h, S, Rh, o⟩ => ?_
  exact ⟨ι, τ, h, S, Rh, out_fl o fun d h1 ι1 H1 v g1 r1 hr1 o1 => o1 ι1 H1 v (.refl _ _) r1 hr1⟩
theorem ms_expr (he : ME X E e fa) (hs : swapsWith e none pos.line X.env = pure false := by rfl) : MS X E (.Expr e pos) (sDrop fa) := by
  refine PS.weak (ps_expr he hs) fun N σ H ⟨ι, τ, h, S, Rh, o⟩ => ?_
  exact ⟨ι, τ, h, S, Rh, out_fl o fun d h1 ι1 H1 v g1 r1 hr1 o1 => o1 ι1 H1 σ (.refl _ _) (S.mono g1) hr1⟩
theorem ms_if {c : Expr} (hc : MT X E c ga) (ha : MSs X E a f) (hb : MSs X E b g) : MS X E (.If c a b pos) (sIf ga f g) := by
  refine PS.weak (ps_if hc ha hb) fun N σ H ⟨ι, τ, h, S, Rh, o⟩ => ?_
  refine ⟨ι, τ, h, S, Rh, out_fl o fun d h1 ι1 H1 v g1 r1 hr1 o1 => ?_⟩
  cases r1
  cases d with
  | true => exact ⟨ι1, τ, h1, S.mono g1, hr1, o1⟩
  | false => exact ⟨ι1, τ, h1, S.mono g1, hr1, o1⟩
theorem ms_set {i : Nat} {x : Str} {pos' : Pos} (hN : X.N.Nodup) (hi : X.N[i]? = some x) (hx : Loc X.env.scope x) (he : ME X E e fa) (hs : swapsWith e (some (.Name x pos')) pos.line X.env = pure false := by rfl) (hf : X.fn x = true ∨ X.env.scope.names.lookup x = some .local := by first | exact .inl rfl | exact .inr rfl | assumption) :
    MS X E (.Assign [.Name x pos'] e pos) (sSet i fa) := by
  refine PS.weak (ps_set hN hi hx he hs hf) fun N σ H ⟨ι, τ, h, S, Rh, o⟩ => ?_
  exact ⟨ι, τ, h, S, Rh, out_fl o fun d h1 ι1 H1 v g1 r1 hr1 o1 => o1 ι1 H1 _ (.refl _ _) ((S.mono g1).set r1 i) hr1⟩
def put (o k v : D) (h : Hd) : Option Hd := match o, k with
  | .ref i, .int j => match h[i]? with
    | some (.lst xs) => match ixN xs.length j with
      | some m => some (h.set i (.lst (xs.set m v)))
      | none => none
    | _ => none
  | _, _ => none
theorem put_snd {K : PySem.W.Frag} {ι : List Addr} {H : Hp} {h h' : Hd} {o k v : V} {od kd vd : D} {Q : Hp → Prop} (r1 : Rep K ι H o od) (r2 : Rep K ι H k kd) (r3 : Rep K ι H v vd) (hr : HRep K ι H h) (e : put od kd vd h = some h')
    (q : ∀ H', Gr ι H ι H' → HRep K ι H' h' → Q H') : rSetL o k v H Q := by
  cases r1 with
  | @ref a i ha =>
    cases r2 with
    | int j =>
      obtain ⟨ob, h1, h2⟩ := hr.at ha
      cases ob with
      | lst xs =>
        obtain ⟨vs, h3, h4⟩ := h2
        simp only [put, h1] at e
        cases hm : ixN xs.length j with
        | none => rw [hm] at e; cases e
        | some m =>
          rw [hm] at e
          cases e
          exact ⟨a, vs, j, m, rfl, rfl, h3, by rw [h4.len]; exact hm, q _ (gr_put hr ha _) (hr.put ha ⟨_, upd_same, (h4.set r3 m).mono (gr_put hr ha _)⟩)⟩
      | dK _ => simp only [put, h1] at e; cases e
      | dT _ => simp only [put, h1] at e; cases e
    | _ => cases e
  | _ => cases e
def sPut (fe fo fi : SE) : SS := fun τ h => (fe τ h).fl fun v h1 => (fo τ h1).fl fun o h2 => (fi τ h2).fl fun k h3 => match put o k v h3 with | some h4 => .nx τ h4 | none => .no
theorem ms_put {i : Expr} {pos' : Pos} (he : ME X E e fa) (ho : ME X E o fb) (hi : ME X E i fc)
    (hs : swapsWithSole [.Subscript o i pos'] e pos.line X.env = pure false := by rfl) (hw : swappedStores [.Subscript o i pos'] e X.env = pure none := by rfl)
    (h1 : (assignEach [.Subscript o i pos'] X.env).map (·.2) = [assign (.Subscript o i pos') X.env] := by rfl)
    (ha : ∀ v, assign (.Subscript o i pos') X.env v = (do
      let ov ← holding [v] (eval o X.env)
      let iv ← holding [v, ov] (eval i X.env)
      standAt pos'
      holding [v, ov, iv] (setItem ov iv v)
      release [v, ov, iv] []) := by intro _; rfl) : MS X E (.Assign [.Subscript o i pos'] e pos) (sPut fa fb fc) := by
  refine PS.weak (ps_asg he (pg_sub ho hi set_list ha) hs hw h1) fun N σ H ⟨ι, τ, h, S, Rh, oo⟩ => ?_
  refine ⟨ι, τ, h, S, Rh, out_fl oo fun d h1 ι1 H1 v g1 r1 hr1 o1 => ?_⟩
  refine ⟨ι1, τ, h1, S.mono g1, hr1, out_fl o1 fun d2 h2 ι2 H2 u g2 r2 hr2 o2 => ?_⟩
  refine ⟨ι2, τ, h2, (S.mono g1).mono g2, hr2, out_fl o2 fun d3 h3 ι3 H3 w g3 r3 hr3 o3 => ?_⟩
  cases hp : put d2 d3 d h3 with
  | none => rw [hp] at o3; exact o3.elim
  | some h4 =>
    rw [hp] at o3
    exact put_snd (r2.mono g3) r3 ((r1.mono g2).mono g3) hr3 hp fun H' g4 hr4 => o3 ι3 H' σ g4 ((((S.mono g1).mono g2).mono g3).mono g4) hr4
def sWh (c : ST) (f : SS) : Nat → SS
  | 0, _, _ => .no
  | n + 1, τ, h => (c τ h).fl fun b h1 => if b = true then (match f τ h1 with | .nx τ2 h2 => sWh c f n τ2 h2 | .ct τ2 h2 => sWh c f n τ2 h2 | .bk τ2 h2 => .nx τ2 h2 | r => r) else .nx τ h1
theorem ms_while (n : Nat) {c : Expr} (hp : PassesOwn (model X.prog X.w) X.A X.env X.xe) (hc : MT X E c ga) (hb : MSs X E a f) : MS X E (.While c a [] pos) (sWh ga f n) := by
  refine PS.weak (ps_while hp hc hb) fun N σ H q => ?_
  refine ⟨fun m σ H => liftS X.K E (sWh ga f m) N σ H, ⟨n, q⟩, ?_⟩
  rintro m σ1 H1 ⟨ι, τ, h, S, Rh, o⟩
  cases m with
  | zero => exact o.elim
  | succ m =>
    refine ⟨ι, τ, h, S, Rh, out_fl o fun d h1 ι1 H1 v g1 r1 hr1 o1 => ?_⟩
    cases r1
    cases d with
    | false => exact o1 ι1 H1 _ (.refl _ _) (S.mono g1) hr1
    | true =>
      refine ⟨fun σ' H' => liftS X.K E (sWh ga f m) N σ' H', fun σ' H' q => ⟨m, Nat.lt_succ_self m, q⟩, ι1, τ, h1, S.mono g1, hr1, ?_⟩
      rw [if_pos rfl] at o1
      cases hf : f τ h1 with
      | nx τ2 h2 => rw [hf] at o1; exact fun ι2 H2 σ2 g2 S2 R2 => ⟨ι2, τ2, h2, S2, R2, outS_mono o1 g2⟩
      | ct τ2 h2 => rw [hf] at o1; exact fun ι2 H2 σ2 g2 S2 R2 => ⟨ι2, τ2, h2, S2, R2, outS_mono o1 g2⟩
      | bk τ2 h2 => rw [hf] at o1; exact o1
      | rt d h2 => rw [hf] at o1; exact o1
      | ex c h2 => rw [hf] at o1; exact o1
      | no => rw [hf] at o1; exact o1.elim
end
abbrev SG := D → Sd → Hd → Fl
def liftG (K : PySem.W.Frag) (E : XD) (g : SG) : TG := fun v σ H Q => ∃ ι τ h d, Rep K ι H v d ∧ SRep K ι H σ τ ∧ HRep K ι H h ∧ outS K E ι H (g d τ h) { nx := Q, rt := fun _ _ => False }
abbrev MG (X : Cx) (E : XD) (tg : Expr) (g : SG) : Prop := PG X tg (liftG X.K E g)
abbrev SGs := List D → Sd → Hd → Fl
def liftGs (K : PySem.W.Frag) (E : XD) (g : SGs) : TGs := fun vs σ H Q => ∃ ι τ h ds, Reps K ι H vs ds ∧ SRep K ι H σ τ ∧ HRep K ι H h ∧ outS K E ι H (g ds τ h) { nx := Q, rt := fun _ _ => False }
abbrev MGs (X : Cx) (E : XD) (tg : List Expr) (g : SGs) : Prop := PGs X tg (liftGs X.K E g)
theorem PG.weak {X : Cx} {e : Expr} {t t' : TG} (h : PG X e t) (i : ∀ v σ H Q, t' v σ H Q → t v σ H Q) : PG X e t' := fun pins s σ H v u Q I r q => h pins s σ H v u Q I r (i _ _ _ _ q)
theorem PGs.weak {X : Cx} {e : List Expr} {t t' : TGs} (h : PGs X e t) (i : ∀ v σ H Q, t' v σ H Q → t v σ H Q) : PGs X e t' := fun pins s σ H v u Q I r q => h pins s σ H v u Q I r (i _ _ _ _ q)
def kN (i : Nat) : SG := fun d τ h => .nx (τ.set i (some d)) h
def kNil : SGs := fun ds τ h => match ds with | [] => .nx τ h | _ => .no
def kCons (g : SG) (k : SGs) : SGs := fun ds τ h => match ds with | d :: r => (match g d τ h with | .nx τ1 h1 => k r τ1 h1 | _ => .no) | [] => .no
def kTup (n : Nat) (k : SGs) : SG := fun d τ h => match d with | .tup ds => if ds.length = n then k ds τ h else .no | _ => .no
section
variable {X : Cx} {E : XD} {e : Expr} {es : List Expr} {fa : SE} {pos : Pos} {g : SG} {ks : SGs}
theorem mg_name {i : Nat} {x : Str} (hN : X.N.Nodup) (hi : X.N[i]? = some x) (hx : Loc X.env.scope x) (hf : X.fn x = true ∨ X.env.scope.names.lookup x = some .local := by first | exact .inl rfl | exact .inr rfl | assumption) : MG X E (.Name x pos) (kN i) :=
  PG.weak (pg_name hN hi hx hf) fun v σ H Q ⟨ι, τ, h, d, r, S, Rh, o⟩ => o ι H _ (.refl _ _) (S.set r i) Rh
theorem mgs_nil : MGs X E [] kNil := by
  refine PGs.weak pgs_nil fun vs σ H Q ⟨ι, τ, h, ds, r, S, Rh, o⟩ => ?_
  cases r with
  | nil => exact ⟨rfl, o ι H σ (.refl _ _) S Rh⟩
  | cons _ _ => exact o.elim
theorem gcons_of {K : PySem.W.Frag} {vs : List V} {σ : St} {H : Hp} {Q : St → Hp → Prop} (q : liftGs K E (kCons g ks) vs σ H Q) : gCons (liftG K E g) (liftGs K E ks) vs σ H Q := by
  obtain ⟨ι, τ, h, ds, r, S, Rh, o⟩ := q
  cases r with
  | nil => exact o.elim
  | @cons v d vs ds r rs =>
    refine ⟨v, vs, rfl, ι, τ, h, d, r, S, Rh, ?_⟩
    simp only [kCons] at o
    cases hg : g d τ h with
    | nx τ1 h1 =>
      rw [hg] at o
      exact fun ι1 H1 σ1 g1 S1 R1 => ⟨ι1, τ1, h1, ds, rs.mono g1, S1, R1, outS_mono o g1⟩
    | _ => rw [hg] at o; exact o.elim
theorem mg_tup {k n : Nat} (hc : X.calm = true) (h : MGs X E es ks) (hn : (assignEach es X.env).length = n := by rfl) (hst : (assignEach es X.env).findIdx? (·.1) = none := by rfl) : MG X E (.Tuple es k pos) (kTup n ks) := by
  refine PG.weak (pg_tup hc h hn hst) fun v σ H Q ⟨ι, τ, h, d, r, S, Rh, o⟩ => ?_
  cases r with
  | @tup a vs xs e rs =>
    simp only [kTup] at o
    by_cases hl : xs.length = n
    · rw [if_pos hl] at o
      exact ⟨a, vs, rfl, SqT.of e, by rw [rs.len]; exact hl, ι, τ, h, xs, rs, S, Rh, o⟩
    · rw [if_neg hl] at o; exact o.elim
  | _ => exact o.elim
def sAsg (f : SE) (g : SG) : SS := fun τ h => (f τ h).fl fun d h1 => match g d τ h1 with | .nx τ2 h2 => .nx τ2 h2 | _ => .no
theorem ms_asg {tg : Expr} (he : ME X E e fa) (hg : MG X E tg g) (hs : swapsWithSole [tg] e pos.line X.env = pure false := by rfl) (hw : swappedStores [tg] e X.env = pure none := by rfl)
    (h1 : (assignEach [tg] X.env).map (·.2) = [assign tg X.env] := by rfl) : MS X E (.Assign [tg] e pos) (sAsg fa g) := by
  refine PS.weak (ps_asg he hg hs hw h1) fun N σ H ⟨ι, τ, h, S, Rh, o⟩ => ?_
  refine ⟨ι, τ, h, S, Rh, out_fl o fun d h1 ι1 H1 v g1 r1 hr1 o1 => ⟨ι1, τ, h1, d, r1, S.mono g1, hr1, ?_⟩⟩
  cases hg : g d τ h1 with
  | nx τ1 h1 => rw [hg] at o1; exact o1
  | _ => rw [hg] at o1; exact o1.elim
end
structure Itm where
  xs : List D
  ck : Hd → Prop
def IRep (K : PySem.W.Frag) (ι0 : List Addr) (H0 : Hp) (J : It) (it : Itm) : Prop := ∀ ι H h, Gr ι0 H0 ι H → HRep K ι H h → it.ck h →
  (∀ (i : Nat) (d : D), it.xs[i]? = some d → J.go i H ∧ ∀ x H', J.yld i H x H' → Gr ι H ι H' ∧ Rep K ι H' x d ∧ HRep K ι H' h) ∧ J.stop it.xs.length H
abbrev repI (K : PySem.W.Frag) : List Addr → Hp → It → Itm → Prop := fun ι H J it => IRep K ι H J it
abbrev SI := Sd → Hd → R Itm
abbrev MI (X : Cx) (E : XD) (tg iter : Expr) (f : SI) : Prop := PI X tg iter (lift X.K E (repI X.K) f)
def signsD (x : Str) : List D := x.cps.toList.map fun c => D.str ⟨#[c]⟩
def itOf (d : D) (h : Hd) : R Itm := match d with
  | .tup xs => .ok ⟨xs, fun _ => True⟩ h
  | .rol xs => .ok ⟨xs, fun _ => True⟩ h
  | .str x => .ok ⟨signsD x, fun _ => True⟩ h
  | .ref i => match h[i]? with
    | some (.lst xs) => .ok ⟨xs, fun h => h[i]? = some (.lst xs)⟩ h
    | _ => .no
  | _ => .no
def sIt (f : SE) : SI := fun τ h => (f τ h).bind itOf
theorem irep_l {K : PySem.W.Frag} {ι0 : List Addr} {H0 : Hp} {a : Addr} {xs : List D} {ck : Hd → Prop} (hl : ∀ ι H h, Gr ι0 H0 ι H → HRep K ι H h → ck h → ∃ vs, SqL K H a vs ∧ Reps K ι H vs xs) : IRep K ι0 H0 (Itl K a) ⟨xs, ck⟩ := by
  intro ι H h g hr c
  obtain ⟨vs, h1, h2⟩ := hl ι H h g hr c
  refine ⟨fun i d e => ?_, ⟨vs, h1, by rw [h2.len]; exact Nat.le_refl _⟩⟩
  obtain ⟨v, e1, r⟩ := h2.get e
  refine ⟨⟨vs, v, h1, e1⟩, fun x H' y => ?_⟩
  obtain ⟨rfl, y⟩ := y
  have := y vs h1
  rw [e1] at this; cases this
  exact ⟨.refl _ _, r, hr⟩
theorem mi_seq {X : Cx} {E : XD} {tg l : Expr} {f : SE} (hl : ME X E l f) : MI X E tg l (sIt f) := by
  intro pins s σ H Rr I ⟨ι, τ, h, S, Rh, o⟩
  unfold sIt at o
  cases hf : f τ h with
  | no => rw [hf] at o; exact o.elim
  | ex c h1 =>
    rw [hf] at o
    exact pi_str hl pins s σ H Rr I ⟨ι, τ, h, S, Rh, by rw [hf]; exact o⟩
  | ok d h1 =>
    rw [hf] at o
    cases d with
    | tup xs =>
      refine pi_tup hl pins s σ H Rr I ⟨ι, τ, h, S, Rh, ?_⟩
      rw [hf]
      intro ι1 H1 v g1 r1 hr1
      cases r1 with
      | @tup a vs _ e rs =>
        refine ⟨a, rfl, ⟨vs, SqT.of e⟩, o ι1 H1 _ g1 ?_ hr1⟩
        intro ι2 H2 h2 g2 hr2 _
        have e2 := g2.tup _ _ e
        have rs2 := rs.mono g2
        refine ⟨fun i d ed => ?_, ⟨vs, SqT.of e2, by rw [rs2.len]; exact Nat.le_refl _⟩⟩
        obtain ⟨v, e1, r⟩ := rs2.get ed
        refine ⟨⟨vs, v, SqT.of e2, e1⟩, fun x H' y => ?_⟩
        obtain ⟨rfl, y⟩ := y
        have := y vs (SqT.of e2)
        rw [e1] at this; cases this
        exact ⟨.refl _ _, r, hr2⟩
    | rol xs =>
      refine pi_list hl pins s σ H Rr I ⟨ι, τ, h, S, Rh, ?_⟩
      rw [hf]
      intro ι1 H1 v g1 r1 hr1
      cases r1 with
      | @rol a vs _ e rs =>
        refine ⟨a, rfl, ⟨vs, e.l⟩, o ι1 H1 _ g1 ?_ hr1⟩
        exact irep_l (fun ι2 H2 h2 g2 hr2 _ => ⟨vs, (e.mono g2).l, rs.mono g2⟩)
    | str x =>
      refine pi_str hl pins s σ H Rr I ⟨ι, τ, h, S, Rh, ?_⟩
      rw [hf]
      intro ι1 H1 v g1 r1 hr1
      cases r1
      refine ⟨x, rfl, o ι1 H1 _ g1 ?_ hr1⟩
      intro ι2 H2 h2 g2 hr2 _
      refine ⟨fun i d ed => ?_, by show (signsD x).length = _; simp [signsD]⟩
      simp only [signsD, List.getElem?_map, Option.map_eq_some_iff] at ed
      obtain ⟨c, ec, rfl⟩ := ed
      refine ⟨by show i < x.cps.size; have := (List.getElem?_eq_some_iff.mp ec).1; simpa using this, fun y H' q => ?_⟩
      obtain ⟨rfl, c', ec', rfl⟩ := q
      rw [ec] at ec'; cases ec'
      exact ⟨.refl _ _, .str _, hr2⟩
    | ref i =>
      simp only [R.bind, itOf] at o
      cases ho : h1[i]? with
      | none => rw [ho] at o; exact o.elim
      | some ob =>
        rw [ho] at o
        cases ob with
        | dK _ => exact o.elim
        | dT _ => exact o.elim
        | lst xs =>
          refine pi_list hl pins s σ H Rr I ⟨ι, τ, h, S, Rh, ?_⟩
          rw [hf]
          intro ι1 H1 v g1 r1 hr1
          cases r1 with
          | @ref a _ e =>
            obtain ⟨vs, e1, rs⟩ := hr1.obj i a _ e ho
            refine ⟨a, rfl, ⟨vs, SqL.of e1⟩, o ι1 H1 _ g1 ?_ hr1⟩
            refine irep_l (fun ι2 H2 h2 g2 hr2 c => ?_)
            obtain ⟨us, e3, rs3⟩ := hr2.obj i a _ (g2.at e) c
            exact ⟨us, SqL.of e3, rs3⟩
    | _ => exact o.elim
def rng (lo : Int) (n : Nat) : List D := (List.range n).map fun i => D.int (lo + (i : Nat))
def B62 (j : Int) : Prop := -(2 ^ 62) ≤ j ∧ j < 2 ^ 62
instance (j : Int) : Decidable (B62 j) := by unfold B62; exact inferInstance
def gRng1 (ds : List D) (h : Hd) : R Itm := match ds with
  | [.int j] => if B62 j then .ok ⟨rng 0 j.toNat, fun _ => True⟩ h else .no
  | _ => .no
def gRng2 (ds : List D) (h : Hd) : R Itm := match ds with
  | [.int i, .int j] => if B62 i ∧ B62 j then .ok ⟨rng i (j - i).toNat, fun _ => True⟩ h else .no
  | _ => .no
def sRg (g : List D → Hd → R Itm) (k : SA) : SI := fun τ h => (k τ h).bind g
theorem irep_r {K : PySem.W.Frag} {ι0 : List Addr} {H0 : Hp} (lo : Int) (n : Nat) : IRep K ι0 H0 (Itr lo n) ⟨rng lo n, fun _ => True⟩ := by
  intro ι H h g hr _
  refine ⟨fun i d ed => ?_, by show n ≤ (rng lo n).length; simp [rng]⟩
  simp only [rng, List.getElem?_map, Option.map_eq_some_iff] at ed
  obtain ⟨j, ej, rfl⟩ := ed
  obtain ⟨hj, e⟩ := List.getElem?_eq_some_iff.mp ej
  simp at e hj
  subst e
  refine ⟨hj, fun y H' q => ?_⟩
  obtain ⟨rfl, rfl⟩ := q
  exact ⟨.refl _ _, .int _, hr⟩
theorem mi_rng1 {X : Cx} {E : XD} {tg a : Expr} {k : SA} {p pos : Pos} (hg : Gl X "range") (hm : X.mg "range" = none) (ha : MA X E [a] k) (hs : starEach [a] X.env = [(false, eval a X.env)] := by rfl) : MI X E tg (.Call (.Name "range" p) [a] [] pos) (sRg gRng1 k) := by
  intro pins s σ H Rr I ⟨ι, τ, h, S, Rh, o⟩
  refine pi_range1 hg hm ha hs pins s σ H Rr I ⟨ι, τ, h, S, Rh, out_bind o fun ds h1 ι1 H1 vs g1 r1 hr1 o1 => ?_⟩
  unfold gRng1 at o1
  split at o1
  · rename_i j
    cases r1 with
    | cons r rs =>
      cases r; cases rs
      by_cases hb : B62 j
      · rw [if_pos hb] at o1
        exact ⟨j, rfl, hb.1, hb.2, o1 ι1 H1 _ (.refl _ _) (irep_r 0 j.toNat) hr1⟩
      · rw [if_neg hb] at o1; exact o1.elim
  · exact o1.elim
theorem mi_rng2 {X : Cx} {E : XD} {tg a b : Expr} {k : SA} {p pos : Pos} (hg : Gl X "range") (hm : X.mg "range" = none) (ha : MA X E [a, b] k) (hs : starEach [a, b] X.env = [(false, eval a X.env), (false, eval b X.env)] := by rfl) (hs2 : starEach [b] X.env = [(false, eval b X.env)] := by rfl) : MI X E tg (.Call (.Name "range" p) [a, b] [] pos) (sRg gRng2 k) := by
  intro pins s σ H Rr I ⟨ι, τ, h, S, Rh, o⟩
  refine pi_range2 hg hm ha hs hs2 pins s σ H Rr I ⟨ι, τ, h, S, Rh, out_bind o fun ds h1 ι1 H1 vs g1 r1 hr1 o1 => ?_⟩
  unfold gRng2 at o1
  split at o1
  · rename_i i j
    cases r1 with
    | cons r rs =>
      cases r
      cases rs with
      | cons r rs =>
      cases r; cases rs
      by_cases hb : B62 i ∧ B62 j
      · rw [if_pos hb] at o1
        exact ⟨i, j, rfl, ⟨hb.1.1, hb.1.2, hb.2.1, hb.2.2⟩, o1 ι1 H1 _ (.refl _ _) (irep_r i _) hr1⟩
      · rw [if_neg hb] at o1; exact o1.elim
  · exact o1.elim
open Classical in
noncomputable def forL (ck : Hd → Prop) (g : SG) (b : SS) : List D → Sd → Hd → Fl
  | [], τ, h => if ck h then .nx τ h else .no
  | x :: xs, τ, h => if ck h then (match g x τ h with
      | .nx τ1 h1 => (match b τ1 h1 with
        | .nx τ2 h2 => forL ck g b xs τ2 h2
        | .ct τ2 h2 => forL ck g b xs τ2 h2
        | .bk τ2 h2 => .nx τ2 h2
        | r => r)
      | _ => .no) else .no
noncomputable def sFor (f : SI) (g : SG) (b : SS) : SS := fun τ h => (f τ h).fl fun it h1 => forL it.ck g b it.xs τ h1
theorem for_snd {K : PySem.W.Frag} {E : XD} {ι0 : List Addr} {H0 : Hp} {J : It} {it : Itm} {g : SG} {b : SS} {N : Ends} {σ0 : St} {τ0 : Sd} {h0 : Hd} (ir : IRep K ι0 H0 J it) (S : SRep K ι0 H0 σ0 τ0) (Rh : HRep K ι0 H0 h0) (o : outS K E ι0 H0 (forL it.ck g b it.xs τ0 h0) N) :
    ∃ W : Nat → Nat → St → Hp → Prop, (∃ m, W 0 m σ0 H0) ∧ ∀ i m σ H, W i m σ H →
      (J.stop i H ∧ N.nx σ H) ∨ (J.go i H ∧ ∃ M : St → Hp → Prop, (∀ σ' H', M σ' H' → ∃ m', m' < m ∧ W (i + 1) m' σ' H') ∧ ∀ x H', J.yld i H x H' → liftG K E g x σ H' fun σ2 H2 => liftS K E b { N with nx := M, ct := M, bk := N.nx } σ2 H2) := by
  refine ⟨fun i m σ H => m = it.xs.length - i ∧ i ≤ it.xs.length ∧ ∃ ι τ h, Gr ι0 H0 ι H ∧ SRep K ι H σ τ ∧ HRep K ι H h ∧ outS K E ι H (forL it.ck g b (it.xs.drop i) τ h) N, ⟨_, rfl, Nat.zero_le _, ι0, τ0, h0, .refl _ _, S, Rh, o⟩, ?_⟩
  rintro i m σ H ⟨rfl, hi, ι, τ, h, g0, S, Rh, o⟩
  by_cases hlt : i < it.xs.length
  · rw [List.drop_eq_getElem_cons hlt, forL] at o
    by_cases hc : it.ck h
    · rw [if_pos hc] at o
      obtain ⟨go, yl⟩ := (ir ι H h g0 Rh hc).1 i _ (List.getElem?_eq_getElem hlt)
      refine .inr ⟨go, fun σ' H' => it.xs.length - (i + 1) < it.xs.length - i ∧ ∃ ι τ h, Gr ι0 H0 ι H' ∧ SRep K ι H' σ' τ ∧ HRep K ι H' h ∧ outS K E ι H' (forL it.ck g b (it.xs.drop (i + 1)) τ h) N, fun σ' H' q => ⟨_, q.1, rfl, hlt, q.2⟩, fun x H' y => ?_⟩
      obtain ⟨g1, r1, hr1⟩ := yl x H' y
      refine ⟨ι, τ, h, _, r1, S.mono g1, hr1, ?_⟩
      have o' := outS_mono o g1
      cases hg : g it.xs[i] τ h with
      | nx τ1 h1 =>
        rw [hg] at o'
        dsimp only at o'
        intro ι2 H2 σ2 g2 S2 R2
        refine ⟨ι2, τ1, h1, S2, R2, ?_⟩
        have o2 := outS_mono o' g2
        have gg := (g0.trans g1).trans g2
        cases hb : b τ1 h1 with
        | nx τ2 h2 => rw [hb] at o2; exact fun ι3 H3 σ3 g3 S3 R3 => ⟨by omega, ι3, τ2, h2, gg.trans g3, S3, R3, outS_mono o2 g3⟩
        | ct τ2 h2 => rw [hb] at o2; exact fun ι3 H3 σ3 g3 S3 R3 => ⟨by omega, ι3, τ2, h2, gg.trans g3, S3, R3, outS_mono o2 g3⟩
        | bk τ2 h2 => rw [hb] at o2; exact o2
        | rt d h2 => rw [hb] at o2; exact o2
        | ex c h2 => rw [hb] at o2; exact o2
        | no => rw [hb] at o2; exact o2.elim
      | _ => rw [hg] at o'; exact o'.elim
    · rw [if_neg hc] at o; exact o.elim
  · have e : i = it.xs.length := by omega
    subst e
    rw [List.drop_eq_nil_of_le (Nat.le_refl _), forL] at o
    by_cases hc : it.ck h
    · rw [if_pos hc] at o
      exact .inl ⟨(ir ι H h g0 Rh hc).2, o ι H σ (.refl _ _) S Rh⟩
    · rw [if_neg hc] at o; exact o.elim
theorem ms_for {X : Cx} {E : XD} {tg iter : Expr} {body : List Stmt} {f : SI} {g : SG} {b : SS} {pos : Pos} (hp : PassesOwn (model X.prog X.w) X.A X.env X.xe) (hc : X.calm = true) (hi : MI X E tg iter f) (hg : MG X E tg g) (hb : MSs X E body b) (hs : ∀ x, foldedSetIterable iter X.env x = pure x := by intro _; rfl) : MS X E (.For tg iter body [] pos) (sFor f g b) := by
  refine PS.weak (ps_for hp hc hi hg hb hs) fun N σ H ⟨ι, τ, h, S, Rh, o⟩ => ?_
  exact ⟨ι, τ, h, S, Rh, out_fl o fun it h1 ι1 H1 J g1 r1 hr1 o1 => for_snd r1 (S.mono g1) hr1 o1⟩
end MI
set_option Elab.async false
set_option linter.all false
set_option maxRecDepth 100000
set_option maxHeartbeats 4000000
namespace MI
open PySem PySem.Spec L2
theorem R.bind_assoc {α β γ : Type} (r : R α) (f : α → Hd → R β) (g : β → Hd → R γ) : (r.bind f).bind g = r.bind fun a h => (f a h).bind g := by cases r <;> rfl
open Classical in
noncomputable def mapR (ck : Hd → Prop) (f : D → Hd → R D) : List D → Hd → R (List D)
  | [], h => if ck h then .ok [] h else .no
  | x :: xs, h => if ck h then (f x h).bind fun y h1 => (mapR ck f xs h1).bind fun ys h2 => .ok (y :: ys) h2 else .no
open Classical in
noncomputable def mapF (ck : Hd → Prop) (f : D → Hd → R (Option D)) : List D → Hd → R (List D)
  | [], h => if ck h then .ok [] h else .no
  | x :: xs, h => if ck h then (f x h).bind fun y h1 => (mapF ck f xs h1).bind fun ys h2 => .ok (y.toList ++ ys) h2 else .no
def frs' (ix : List Nat) (τ : Sd) : Sd := ix.map fun i => (τ[i]?).join
def t1 (d : D) : Option Sd := some [some d]
def bindT (t : D → Option Sd) (fe : SE) (rest : Sd) (x : D) (h : Hd) : R D := match t x with | some ts => fe (ts ++ rest) h | none => .no
def bindF (t : D → Option Sd) (c : ST) (fe : SE) (rest : Sd) (x : D) (h : Hd) : R (Option D) := match t x with
  | some ts => (c (ts ++ rest) h).bind fun b h1 => if b = true then (fe (ts ++ rest) h1).bind fun y h2 => .ok (some y) h2 else .ok none h1
  | none => .no
def kLst (yd zs : List D) (h : Hd) : R D := .ok (.ref h.length) (h ++ [.lst (yd ++ zs)])
theorem k_cons (r : R D) (m : Hd → R (List D)) (yd : List D) : (r.bind fun y h1 => (m h1).bind fun ys h2 => .ok (y :: ys) h2).bind (kLst yd) = r.bind fun y h1 => (m h1).bind (kLst (yd ++ [y])) := by
  cases r with
  | ok y h1 =>
    show ((m h1).bind _).bind _ = (m h1).bind _
    cases m h1 with
    | ok ys h2 => simp [R.bind, kLst]
    | _ => rfl
  | _ => rfl
theorem k_opt (r : R (Option D)) (m : Hd → R (List D)) (yd : List D) : (r.bind fun y h1 => (m h1).bind fun ys h2 => .ok (y.toList ++ ys) h2).bind (kLst yd) = r.bind fun y h1 => (m h1).bind (kLst (yd ++ y.toList)) := by
  cases r with
  | ok y h1 =>
    show ((m h1).bind _).bind _ = (m h1).bind _
    cases m h1 with
    | ok ys h2 => simp [R.bind, kLst]
    | _ => rfl
  | _ => rfl
noncomputable def sComp (fi : SI) (t : D → Option Sd) (fe : SE) (ix : List Nat) : SE := fun τ h => (fi τ h).bind fun it h1 => if it.xs.length ≤ LINE then (mapR it.ck (bindT t fe (frs' ix τ)) it.xs h1).bind (kLst []) else .no
noncomputable def sCompF (fi : SI) (t : D → Option Sd) (c : ST) (fe : SE) (ix : List Nat) : SE := fun τ h => (fi τ h).bind fun it h1 => if it.xs.length ≤ LINE then (mapF it.ck (bindF t c fe (frs' ix τ)) it.xs h1).bind (kLst []) else .no
def TgOk (K : PySem.W.Frag) (n : Nat) (g : TG) (t : D → Option Sd) : Prop := ∀ ι H v d ts (r : St) (Q : St → Hp → Prop), Rep K ι H v d → t d = some ts → (∀ us : St, us.length = n → SRep K ι H us ts → Q (us ++ r) H) → g v (List.replicate n none ++ r) H Q
theorem srep_nil {K : PySem.W.Frag} {ι : List Addr} {H : Hp} : SRep K ι H [] [] := ⟨rfl, fun i d e => by simp at e⟩
theorem srep_cons {K : PySem.W.Frag} {ι : List Addr} {H : Hp} {v : V} {d : D} {σ : St} {τ : Sd} (r : Rep K ι H v d) (s : SRep K ι H σ τ) : SRep K ι H (some v :: σ) (some d :: τ) := by
  refine ⟨by simp [s.len], fun i d' e => ?_⟩
  cases i with
  | zero => simp at e; subst e; exact ⟨v, rfl, r⟩
  | succ i => simpa using s.val i d' (by simpa using e)
theorem srep_app {K : PySem.W.Frag} {ι : List Addr} {H : Hp} {σ σ' : St} {τ τ' : Sd} (s : SRep K ι H σ τ) (s' : SRep K ι H σ' τ') : SRep K ι H (σ ++ σ') (τ ++ τ') := by
  refine ⟨by simp [s.len, s'.len], fun i d e => ?_⟩
  by_cases hi : i < τ.length
  · rw [List.getElem?_append_left hi] at e
    rw [List.getElem?_append_left (by rw [s.len]; exact hi)]
    exact s.val i d e
  · rw [List.getElem?_append_right (by omega)] at e
    rw [List.getElem?_append_right (by rw [s.len]; omega), s.len]
    exact s'.val _ d e
theorem srep_frs {K : PySem.W.Frag} {ι : List Addr} {H : Hp} {σ : St} {τ : Sd} (s : SRep K ι H σ τ) (ix : List Nat) : SRep K ι H (ix.map fun i => (σ[i]?).join) (frs' ix τ) := by
  refine ⟨by simp [frs'], fun j d e => ?_⟩
  simp only [frs', List.getElem?_map, Option.map_eq_some_iff] at e
  obtain ⟨i, hi, e⟩ := e
  have : τ[i]? = some (some d) := by
    cases q : τ[i]? with
    | none => rw [q] at e; cases e
    | some o => rw [q] at e; simp at e; rw [e]
  obtain ⟨v, h1, h2⟩ := s.val i d this
  exact ⟨v, by simp [hi, h1], h2⟩
theorem tg_one {K : PySem.W.Frag} : TgOk K 1 (gName 0) t1 := fun ι H v d ts r Q hr e q => by
  cases e
  exact q [some v] rfl (srep_cons hr srep_nil)
theorem ext_app {n : Nat} {us r : St} (h : us.length = n) : L2.Ext (List.replicate n none ++ r) (us ++ r) := by
  refine ⟨by simp [h], fun i v e => ?_⟩
  by_cases hi : i < n
  · rw [List.getElem?_append_left (by simpa using hi), List.getElem?_replicate, if_pos hi] at e
    cases e
  · rw [List.getElem?_append_right (by simpa using hi), List.length_replicate] at e
    rw [List.getElem?_append_right (by omega), h]
    exact e
theorem comp_snd {K : PySem.W.Frag} {E : XD} {ι0 : List Addr} {H0 : Hp} {J : It} {it : Itm} {g : TG} {t : D → Option Sd} {fe : SE} {n : Nat} {r : St} {rd : Sd} {h0 : Hd} {Q : VK} (ir : IRep K ι0 H0 J it) (tg : TgOk K n g t) (S : SRep K ι0 H0 r rd) (Rh : HRep K ι0 H0 h0) (hl : it.xs.length ≤ LINE)
    (o : out K E (repD K) ι0 H0 ((mapR it.ck (bindT t fe rd) it.xs h0).bind (kLst [])) Q) : compW J (List.replicate n none ++ r) g (lift K E (repD K) fe) Q H0 := by
  refine ⟨fun i m ys H => m = it.xs.length - i ∧ i ≤ it.xs.length ∧ ys.length ≤ i ∧ ∃ ι h yd, Gr ι0 H0 ι H ∧ HRep K ι H h ∧ Reps K ι H ys yd ∧ out K E (repD K) ι H ((mapR it.ck (bindT t fe rd) (it.xs.drop i) h).bind (kLst yd)) Q,
    ⟨_, rfl, Nat.zero_le _, Nat.zero_le _, ι0, h0, [], .refl _ _, Rh, .nil, o⟩, ?_⟩
  rintro i m ys H ⟨rfl, hi, hy, ι, h, yd, g0, Rh, ry, o⟩
  by_cases hlt : i < it.xs.length
  · rw [List.drop_eq_getElem_cons hlt, mapR] at o
    by_cases hc : it.ck h
    · rw [if_pos hc, k_cons] at o
      obtain ⟨go, yl⟩ := (ir ι H h g0 Rh hc).1 i _ (List.getElem?_eq_getElem hlt)
      refine .inr ⟨go, Nat.lt_of_le_of_lt hy (Nat.lt_of_lt_of_le hlt (ll hl)), fun x H' y => ?_⟩
      obtain ⟨g1, r1, hr1⟩ := yl x H' y
      have o' := out_mono o g1
      cases ht : t it.xs[i] with
      | none => simp only [bindT, ht] at o'; exact o'.elim
      | some ts =>
        simp only [bindT, ht] at o'
        refine tg ι H' x _ ts r _ r1 ht fun us hus su => ⟨ext_app hus, ι, ts ++ rd, h, srep_app su (S.mono (g0.trans g1)), hr1, out_bind o' fun d2 h2 ι2 H2 u g2 r2 hr2 o2 => ?_⟩
        refine ⟨it.xs.length - (i + 1), by omega, rfl, hlt, by simp; omega, ι2, h2, yd ++ [d2], (g0.trans g1).trans g2, hr2, ((ry.mono g1).mono g2).snoc r2, o2⟩
    · rw [if_neg hc] at o; exact o.elim
  · have e : i = it.xs.length := by omega
    subst e
    rw [List.drop_eq_nil_of_le (Nat.le_refl _), mapR] at o
    by_cases hc : it.ck h
    · rw [if_pos hc] at o
      refine .inl ⟨(ir ι H h g0 Rh hc).2, new_lst (E := E) ry Rh ?_⟩
      simpa [R.bind, kLst] using o
    · rw [if_neg hc] at o; exact o.elim
theorem compF_snd {K : PySem.W.Frag} {E : XD} {ι0 : List Addr} {H0 : Hp} {J : It} {it : Itm} {g : TG} {t : D → Option Sd} {c : ST} {fe : SE} {n : Nat} {r : St} {rd : Sd} {h0 : Hd} {Q : VK} (ir : IRep K ι0 H0 J it) (tg : TgOk K n g t) (S : SRep K ι0 H0 r rd) (Rh : HRep K ι0 H0 h0) (hl : it.xs.length ≤ LINE)
    (o : out K E (repD K) ι0 H0 ((mapF it.ck (bindF t c fe rd) it.xs h0).bind (kLst [])) Q) : compWIf J (List.replicate n none ++ r) g (lift K E repB c) (lift K E (repD K) fe) Q H0 := by
  refine ⟨fun i m ys H => m = it.xs.length - i ∧ i ≤ it.xs.length ∧ ys.length ≤ i ∧ ∃ ι h yd, Gr ι0 H0 ι H ∧ HRep K ι H h ∧ Reps K ι H ys yd ∧ out K E (repD K) ι H ((mapF it.ck (bindF t c fe rd) (it.xs.drop i) h).bind (kLst yd)) Q,
    ⟨_, rfl, Nat.zero_le _, Nat.zero_le _, ι0, h0, [], .refl _ _, Rh, .nil, o⟩, ?_⟩
  rintro i m ys H ⟨rfl, hi, hy, ι, h, yd, g0, Rh, ry, o⟩
  by_cases hlt : i < it.xs.length
  · rw [List.drop_eq_getElem_cons hlt, mapF] at o
    by_cases hc : it.ck h
    · rw [if_pos hc, k_opt] at o
      obtain ⟨go, yl⟩ := (ir ι H h g0 Rh hc).1 i _ (List.getElem?_eq_getElem hlt)
      refine .inr ⟨go, Nat.lt_of_le_of_lt hy (Nat.lt_of_lt_of_le hlt (ll hl)), fun x H' y => ?_⟩
      obtain ⟨g1, r1, hr1⟩ := yl x H' y
      have o' := out_mono o g1
      cases ht : t it.xs[i] with
      | none => simp only [bindF, ht] at o'; exact o'.elim
      | some ts =>
        simp only [bindF, ht] at o'
        rw [R.bind_assoc] at o'
        refine tg ι H' x _ ts r _ r1 ht fun us hus su => ⟨ext_app hus, ι, ts ++ rd, h, srep_app su (S.mono (g0.trans g1)), hr1, out_bind o' fun b h1 ι1 H1 b' g2 rb hrb ob => ?_⟩
        have su1 : SRep K ι1 H1 (us ++ r) (ts ++ rd) := (srep_app su (S.mono (g0.trans g1))).mono g2
        cases rb
        cases b with
        | true =>
          rw [if_pos rfl] at ob ⊢
          rw [R.bind_assoc] at ob
          refine ⟨ι1, ts ++ rd, h1, su1, hrb, out_bind ob fun d2 h2 ι2 H2 u g3 r2 hr2 o2 => ?_⟩
          refine ⟨it.xs.length - (i + 1), by omega, rfl, hlt, by simp; omega, ι2, h2, yd ++ [d2], ((g0.trans g1).trans g2).trans g3, hr2, (((ry.mono g1).mono g2).mono g3).snoc r2, ?_⟩
          simpa [R.bind] using o2
        | false =>
          rw [if_neg Bool.false_ne_true] at ob ⊢
          refine ⟨it.xs.length - (i + 1), by omega, rfl, hlt, by omega, ι1, h1, yd, (g0.trans g1).trans g2, hrb, (ry.mono g1).mono g2, ?_⟩
          simpa [R.bind] using ob
    · rw [if_neg hc] at o; exact o.elim
  · have e : i = it.xs.length := by omega
    subst e
    rw [List.drop_eq_nil_of_le (Nat.le_refl _), mapF] at o
    by_cases hc : it.ck h
    · rw [if_pos hc] at o
      refine .inl ⟨(ir ι H h g0 Rh hc).2, new_lst (E := E) ry Rh ?_⟩
      simpa [R.bind, kLst] using o
    · rw [if_neg hc] at o; exact o.elim
section
variable {X : Cx} {E : XD} {elt tg iter cnd : Expr} {scope : Scope} {pos : Pos} {cl : List (Str × Addr)} {ts fr : List Str} {ix : List Nat} {fi : SI} {g : TG} {t : D → Option Sd} {fe : SE} {fc : ST}
theorem me_comp (hc : X.calm = true) (S : CSc X scope cl ts fr ix) (hi : MI X E tg iter fi) (hg : ∀ C fp s H, PG (cxC X (ts ++ fr) scope cl C fp s H) tg g) (ht : TgOk X.K ts.length g t) (he : ∀ C fp s H, ME (cxC X (ts ++ fr) scope cl C fp s H) E elt fe)
    (hs : ∀ x, foldedSetIterable iter X.env x = pure x := by intro _; rfl) : ME X E (.ListComp elt [⟨tg, iter, [], 0⟩] scope pos) (sComp fi t fe ix) := by
  refine PE.weak (pe_lcomp (te := lift X.K E (repD X.K) fe) hc S hi hg he hs) fun σ H Q ⟨ι, τ, h, Sr, Rh, o⟩ => ?_
  refine ⟨ι, τ, h, Sr, Rh, out_bind o fun it h1 ι1 H1 J g1 r1 hr1 o1 => ?_⟩
  by_cases hl : it.xs.length ≤ LINE
  · rw [if_pos hl] at o1
    exact comp_snd r1 ht (srep_frs (Sr.mono g1) ix) hr1 hl o1
  · rw [if_neg hl] at o1; exact o1.elim
theorem me_compF (hc : X.calm = true) (S : CSc X scope cl ts fr ix) (hi : MI X E tg iter fi) (hg : ∀ C fp s H, PG (cxC X (ts ++ fr) scope cl C fp s H) tg g) (ht : TgOk X.K ts.length g t) (he : ∀ C fp s H, ME (cxC X (ts ++ fr) scope cl C fp s H) E elt fe)
    (hq : ∀ C fp s H, MT (cxC X (ts ++ fr) scope cl C fp s H) E cnd fc)
    (hs : ∀ x, foldedSetIterable iter X.env x = pure x := by intro _; rfl) : ME X E (.ListComp elt [⟨tg, iter, [cnd], 0⟩] scope pos) (sCompF fi t fc fe ix) := by
  refine PE.weak (pe_lcompIf (te := lift X.K E (repD X.K) fe) (tc := lift X.K E repB fc) hc S hi hg he hq hs) fun σ H Q ⟨ι, τ, h, Sr, Rh, o⟩ => ?_
  refine ⟨ι, τ, h, Sr, Rh, out_bind o fun it h1 ι1 H1 J g1 r1 hr1 o1 => ?_⟩
  by_cases hl : it.xs.length ≤ LINE
  · rw [if_pos hl] at o1
    exact compF_snd r1 ht (srep_frs (Sr.mono g1) ix) hr1 hl o1
  · rw [if_neg hl] at o1; exact o1.elim
end
mutual
def clo (n : Nat) : D → Prop
  | .tup xs => clos n xs
  | .rol xs => clos n xs
  | .rod _ xs => clos n xs
  | .scr xs => clos n xs
  | .rdT _ xs => clos n xs
  | .ref i => i < n
  | _ => True
def clos (n : Nat) : List D → Prop
  | [] => True
  | x :: xs => clo n x ∧ clos n xs
end
mutual
theorem Rep.clo {K : PySem.W.Frag} {ι : List Addr} {H : Hp} : ∀ {v : V} {d : D}, Rep K ι H v d → clo ι.length d
  | _, _, .non => by simp [MI.clo]
  | _, _, .bl b => by simp [MI.clo]
  | _, _, .int i => by simp [MI.clo]
  | _, _, .str x => by simp [MI.clo]
  | _, _, .ty n => by simp [MI.clo]
  | _, _, .tup h r => by simp only [MI.clo]; exact Reps.clo r
  | _, _, .rol h r => by simp only [MI.clo]; exact Reps.clo r
  | _, _, .ref h => by simp only [MI.clo]; exact (List.getElem?_eq_some_iff.mp h).1
  | _, _, .rod h e r => by simp only [MI.clo]; exact Reps.clo r
  | _, _, .scr h r => by simp only [MI.clo]; exact Reps.clo r
  | _, _, .rdT h e r => by simp only [MI.clo]; exact Reps.clo r
  | _, _, .exc h hc hn => by simp [MI.clo]
theorem Reps.clo {K : PySem.W.Frag} {ι : List Addr} {H : Hp} : ∀ {vs : List V} {ds : List D}, Reps K ι H vs ds → clos ι.length ds
  | _, _, .nil => by simp [MI.clos]
  | _, _, .cons r rs => by simp only [MI.clos]; exact ⟨Rep.clo r, Reps.clo rs⟩
end
mutual
theorem Rep.cut {K : PySem.W.Frag} {ι : List Addr} {H : Hp} {n : Nat} : ∀ {v : V} {d : D}, Rep K ι H v d → clo n d → Rep K (ι.take n) H v d
  | _, _, .non, _ => .non
  | _, _, .bl b, _ => .bl b
  | _, _, .int i, _ => .int i
  | _, _, .str x, _ => .str x
  | _, _, .ty n, _ => .ty n
  | _, _, .tup h r, c => .tup h (Reps.cut r (by simpa only [MI.clo] using c))
  | _, _, .rol h r, c => .rol h (Reps.cut r (by simpa only [MI.clo] using c))
  | _, _, .ref h, c => .ref (by simp only [MI.clo] at c; rw [List.getElem?_take, if_pos c]; exact h)
  | _, _, .rod h e r, c => .rod h e (Reps.cut r (by simpa only [MI.clo] using c))
  | _, _, .scr h r, c => .scr h (Reps.cut r (by simpa only [MI.clo] using c))
  | _, _, .rdT h e r, c => .rdT h e (Reps.cut r (by simpa only [MI.clo] using c))
  | _, _, .exc h hc hn, _ => .exc h hc hn
theorem Reps.cut {K : PySem.W.Frag} {ι : List Addr} {H : Hp} {n : Nat} : ∀ {vs : List V} {ds : List D}, Reps K ι H vs ds → clos n ds → Reps K (ι.take n) H vs ds
  | _, _, .nil, _ => .nil
  | _, _, .cons r rs, c => by simp only [MI.clos] at c; exact .cons (Rep.cut r c.1) (Reps.cut rs c.2)
end
def cloO (n : Nat) : O → Prop
  | .lst xs => clos n xs
  | .dK kvs => clos n (kvs.map (·.2))
  | .dT kvs => clos n (kvs.map (·.2))
def cloH (n : Nat) (h : Hd) : Prop := ∀ o ∈ h, cloO n o
theorem ORep.clo {K : PySem.W.Frag} {ι : List Addr} {H : Hp} {a : Addr} {o : O} (r : ORep K ι H a o) : cloO ι.length o := by
  cases o with
  | lst xs => obtain ⟨vs, _, r⟩ := r; exact r.clo
  | dK kvs => obtain ⟨us, _, _, r⟩ := r; exact r.clo
  | dT kvs => obtain ⟨us, _, _, r⟩ := r; exact r.clo
theorem ORep.cut {K : PySem.W.Frag} {ι : List Addr} {H : Hp} {a : Addr} {o : O} {n : Nat} (r : ORep K ι H a o) (c : cloO n o) : ORep K (ι.take n) H a o := by
  cases o with
  | lst xs => obtain ⟨vs, h, r⟩ := r; exact ⟨vs, h, r.cut c⟩
  | dK kvs => obtain ⟨us, h, e, r⟩ := r; exact ⟨us, h, e, r.cut c⟩
  | dT kvs => obtain ⟨us, h, e, r⟩ := r; exact ⟨us, h, e, r.cut c⟩
theorem HRep.clo {K : PySem.W.Frag} {ι : List Addr} {H : Hp} {h : Hd} (r : HRep K ι H h) : cloH h.length h := fun o ho => by
  obtain ⟨i, hi⟩ := List.getElem?_of_mem ho
  obtain ⟨a, _, q⟩ := r.addr hi
  rw [← r.len]; exact q.clo
theorem HRep.cut {K : PySem.W.Frag} {ι : List Addr} {H : Hp} {h g : Hd} (r : HRep K ι H (h ++ g)) (c : cloH h.length h) : HRep K (ι.take h.length) H h := by
  refine ⟨r.nd.sublist (List.take_sublist _ _), ?_, fun i a o e1 e2 => ?_⟩
  · have := r.len
    rw [List.length_append] at this
    rw [List.length_take]; omega
  · have hi : i < h.length := (List.getElem?_eq_some_iff.mp e2).1
    rw [List.getElem?_take, if_pos hi] at e1
    exact (r.obj i a o e1 (by rw [List.getElem?_append_left hi]; exact e2)).cut (c o (List.mem_of_getElem? e2))
def X0 : XD := fun _ _ _ _ => False
abbrev SF := List D → Hd → R D
def spOf (K : PySem.W.Frag) (n : Nat) (F : SF) : Sp := fun vs H Q _ => vs.length = n ∧ ∃ ι ds h, Reps K ι H vs ds ∧ HRep K ι H h ∧ out K X0 (repD K) ι H (F ds h) Q
def startD (n : Nat) (ds : List D) : Sd := ds.map some ++ List.replicate (n - ds.length) none
def bodyR (b : SS) (n : Nat) (ds : List D) (h : Hd) : R D := match b (startD n ds) h with
  | .rt d h1 => .ok d h1
  | .nx _ h1 => .ok .non h1
  | .ex c h1 => .ex c h1
  | _ => .no
def Rf (n : Nat) (r' r : R D) : Prop := match r with
  | .no => True
  | .ok d h1 => ∃ g, r' = .ok d (h1 ++ g) ∧ (g = [] ∨ (n ≤ h1.length ∧ clo h1.length d ∧ cloH h1.length h1))
  | .ex c h1 => ∃ g, r' = .ex c (h1 ++ g) ∧ (g = [] ∨ (n ≤ h1.length ∧ cloH h1.length h1))
theorem Rf.same {n : Nat} {r' r : R D} (h : r' = r) : Rf n r' r := by
  subst h
  cases r' with
  | ok d h1 => exact ⟨[], by simp, .inl rfl⟩
  | ex c h1 => exact ⟨[], by simp, .inl rfl⟩
  | no => exact True.intro
theorem srep_start {K : PySem.W.Frag} {ι : List Addr} {H : Hp} {vs : List V} {ds : List D} {N : List Str} (r : Reps K ι H vs ds) : SRep K ι H (start N vs) (startD N.length ds) := by
  refine srep_app ?_ ?_
  · clear N
    induction r using Reps.rec (motive_1 := fun _ _ _ => True) with
    | nil => exact srep_nil
    | cons r rs _ ih => exact srep_cons r ih
    | _ => trivial
  · rw [r.len]
    exact ⟨by simp, fun i d e => by rw [List.getElem?_replicate] at e; split at e <;> cases e⟩
theorem gr_cut {ι ι' : List Addr} {H H' : Hp} {n : Nat} (g : Gr ι H ι' H') (hn : ι.length ≤ n) : Gr ι H (ι'.take n) H' := by
  obtain ⟨m, rfl, hm⟩ := g.pre
  exact ⟨⟨m.take (n - ι.length), by rw [List.take_append, List.take_of_length_le hn], fun a ha => hm a (List.mem_of_mem_take ha)⟩, g.tup, g.frz, g.oth, g.kp⟩
section
variable {P : Program} {w : World} {K : PySem.W.Frag} {mg : Str → Option Value} {base : Heap}
theorem def_ok {x qual : Str} {st : Stmt} {f : Addr} {fd : FuncData} {N ps : List Str} {k : Nat} {b : SS} {F : SF} (Fu : Fun K x qual st f fd) (S : FnScope N ps (defScope st))
    (hb : ∀ (cdv : Value) (A : Around) (outer : List Env) (s : Shared) (H : Hp) (E : XK), Room k (A.deeper (PyProof.Rows.envOfC qual (defScope st) s.heap.objs.size f cdv)) → MSs (cxOf CX0 P w K mg base N qual (defScope st) f cdv A outer s H E).nox X0 (defBody st) b)
    (hF : ∀ ds h, ds.length = ps.length → clos h.length ds → cloH h.length h → Rf h.length (bodyR b N.length ds h) (F ds h)) : FnOk P w K mg base CX0 (k + 1) f fd ps (spOf K ps.length F) := by
  refine Fu.ok S (fun vs H Q E h => h.1) fun cdv A outer s H vs Q E hr h => ⟨_, hb cdv A outer s H E hr, ?_⟩
  obtain ⟨hl, ι, ds, h, r, hr', o⟩ := h
  refine ⟨ι, startD N.length ds, h, srep_start r, hr', ?_⟩
  have q := hF ds h (by rw [← r.len]; exact hl) (by rw [← hr'.len]; exact r.clo) hr'.clo
  unfold bodyR at q
  cases hFd : F ds h with
  | no => rw [hFd] at o; exact o.elim
  | ex c h1 =>
    rw [hFd] at q o
    obtain ⟨g, e, cl⟩ := q
    have fin : ∀ ι' H', Gr ι H ι' H' → HRep K ι' H' (h1 ++ g) → X0 c ι' H' (h1 ++ g) := fun ι' H' g1 hr1 => by
      rcases cl with rfl | ⟨hn, c2⟩
      · rw [List.append_nil] at hr1
        exact o ι' H' g1 hr1
      · exact o (ι'.take h1.length) H' (gr_cut g1 (by rw [hr'.len]; exact hn)) (hr1.cut c2)
    cases hbd : b (startD N.length ds) h with
    | ex c' h' =>
      rw [hbd] at e
      injection e with e1 e2
      subst e1 e2
      exact fin
    | _ => rw [hbd] at e; cases e
  | ok d h1 =>
    rw [hFd] at q o
    obtain ⟨g, e, cl⟩ := q
    have fin : ∀ ι' H' v, Gr ι H ι' H' → Rep K ι' H' v d → HRep K ι' H' (h1 ++ g) → Q v H' := fun ι' H' v g1 r1 hr1 => by
      rcases cl with rfl | ⟨hn, c1, c2⟩
      · rw [List.append_nil] at hr1
        exact o ι' H' v g1 r1 hr1
      · exact o (ι'.take h1.length) H' v (gr_cut g1 (by rw [hr'.len]; exact hn)) (r1.cut c1) (hr1.cut c2)
    cases hbd : b (startD N.length ds) h with
    | rt d' h' =>
      rw [hbd] at e
      injection e with e1 e2
      subst e1 e2
      exact fin
    | nx τ' h' =>
      rw [hbd] at e
      injection e with e1 e2
      subst e1 e2
      exact fun ι' H' σ' g1 S1 hr1 => fin ι' H' .non g1 .non hr1
    | _ => rw [hbd] at e; cases e
end
end MI
set_option Elab.async false
set_option linter.all false
set_option maxRecDepth 100000
set_option maxHeartbeats 4000000
namespace MI
open PySem PySem.Spec L2
section
variable {K : PySem.W.Frag} {E : XD} {ι : List Addr} {H : Hp} {h : Hd} {Q : VK}
theorem ans {d : D} {v : V} (o : out K E (repD K) ι H (.ok d h) Q) (r : Rep K ι H v d) (hr : HRep K ι H h) : Q v H := o ι H v (.refl _ _) r hr
theorem HRep.lst (hr : HRep K ι H h) {i : Nat} {a : Addr} {xs : List D} (e : ι[i]? = some a) (hi : h[i]? = some (.lst xs)) : ∃ vs, H a = some (.lst vs) ∧ Reps K ι H vs xs := hr.obj i a _ e hi
end
def gAdd : D → D → Hd → R D
  | .int i, .int j, h => .ok (.int (i + j)) h
  | .str x, .str y, h => if x.length + y.length ≤ LINE then .ok (.str (x ++ y)) h else .no
  | .tup xs, .tup ys, h => if xs ≠ [] ∧ xs.length + ys.length ≤ LINE then .ok (.tup (xs ++ ys)) h else .no
  | .ref i, .ref j, h => match h[i]?, h[j]? with
    | some (.lst xs), some (.lst ys) => if xs.length + ys.length ≤ LINE then .ok (.ref h.length) (h ++ [.lst (xs ++ ys)]) else .no
    | _, _ => .no
  | _, _, _ => .no
def gSub : D → D → Hd → R D
  | .int i, .int j, h => .ok (.int (i - j)) h
  | _, _, _ => .no
def gMod : D → D → Hd → R D
  | .int i, .int j, h => if 0 < j then .ok (.int (i % j)) h else .no
  | _, _, _ => .no
def gDiv : D → D → Hd → R D
  | .int i, .int j, h => if 0 < j ∧ j < 1073741824 then .ok (.int (i / j)) h else .no
  | _, _, _ => .no
def gPow : D → D → Hd → R D
  | .int i, .int j, h => if 0 ≤ j ∧ j ≤ 1000000 ∧ i.natAbs < 2 ^ 64 then .ok (.int (i ^ j.toNat)) h else .no
  | _, _, _ => .no
section
variable {X : Cx} {K : PySem.W.Frag}
theorem snd_sub : Snd2 K gSub (rI0 fun i j => .int (i - j)) := by
  intro E ι H h x y dx dy Q rx ry hr o
  cases rx with
  | int i =>
    cases ry with
    | int j => exact ⟨i, j, rfl, rfl, ans o (.int _) hr⟩
    | _ => exact o.elim
  | _ => exact o.elim
theorem snd_mod : Snd2 K gMod (rI (fun _ j => 0 < j) fun i j => .int (i % j)) := by
  intro E ι H h x y dx dy Q rx ry hr o
  cases rx with
  | int i =>
    cases ry with
    | int j =>
      by_cases hc : 0 < j
      · simp only [gMod, if_pos hc] at o; exact ⟨i, j, rfl, rfl, hc, ans o (.int _) hr⟩
      · simp only [gMod, if_neg hc] at o; exact o.elim
    | _ => exact o.elim
  | _ => exact o.elim
theorem snd_div : Snd2 K gDiv (rI CDiv fun i j => .int (i / j)) := by
  intro E ι H h x y dx dy Q rx ry hr o
  cases rx with
  | int i =>
    cases ry with
    | int j =>
      by_cases hc : 0 < j ∧ j < 1073741824
      · simp only [gDiv, if_pos hc] at o; exact ⟨i, j, rfl, rfl, hc, ans o (.int _) hr⟩
      · simp only [gDiv, if_neg hc] at o; exact o.elim
    | _ => exact o.elim
  | _ => exact o.elim
theorem snd_pow : Snd2 K gPow (rI CPow fun i j => .int (i ^ j.toNat)) := by
  intro E ι H h x y dx dy Q rx ry hr o
  cases rx with
  | int i =>
    cases ry with
    | int j =>
      by_cases hc : 0 ≤ j ∧ j ≤ 1000000 ∧ i.natAbs < 2 ^ 64
      · simp only [gPow, if_pos hc] at o; exact ⟨i, j, rfl, rfl, hc, ans o (.int _) hr⟩
      · simp only [gPow, if_neg hc] at o; exact o.elim
    | _ => exact o.elim
  | _ => exact o.elim
variable {E : XD} {a b e : Expr} {es : List Expr} {fa fb : SE} {ka : SA} {pos : Pos}
theorem me_sub (ha : ME X E a fa) (hb : ME X E b fb) : ME X E (.BinOp a .Sub b pos) (s2 gSub fa fb) := me_op op_sub snd_sub ha hb
theorem me_mod (ha : ME X E a fa) (hb : ME X E b fb) : ME X E (.BinOp a .Mod b pos) (s2 gMod fa fb) := me_op op_mod snd_mod ha hb
theorem me_div (ha : ME X E a fa) (hb : ME X E b fb) : ME X E (.BinOp a .FloorDiv b pos) (s2 gDiv fa fb) := me_op op_fdiv snd_div ha hb
theorem me_pow (ha : ME X E a fa) (hb : ME X E b fb) : ME X E (.BinOp a .Pow b pos) (s2 gPow fa fb) := me_op op_pow snd_pow ha hb
def gNeg : D → Hd → R D
  | .int i, h => .ok (.int (-i)) h
  | _, _ => .no
theorem me_neg (ha : ME X E a fa) : ME X E (.UnaryOp .USub a pos) (s1 gNeg fa) := me_un un_neg (fun E ι H h x dx Q rx hr o => by
  cases rx with
  | int i => exact ⟨i, rfl, ans o (.int _) hr⟩
  | _ => exact o.elim) ha
def eqS : D → D → Bool
  | .non, .non => true
  | .int i, .int j => decide (i = j)
  | .bl i, .bl j => decide (i = j)
  | .str i, .str j => decide (i = j)
  | _, _ => false
def gLt : D → D → Hd → R D
  | .int i, .int j, h => .ok (.bl (decide (i < j))) h
  | .str i, .str j, h => .ok (.bl (decide (i.cps.toList < j.cps.toList))) h
  | _, _, _ => .no
def gLe : D → D → Hd → R D
  | .int i, .int j, h => .ok (.bl (decide (i ≤ j))) h
  | .str i, .str j, h => .ok (.bl (!decide (j.cps.toList < i.cps.toList))) h
  | _, _, _ => .no
def gGt : D → D → Hd → R D
  | .int i, .int j, h => .ok (.bl (decide (j < i))) h
  | _, _, _ => .no
def gGe : D → D → Hd → R D
  | .int i, .int j, h => .ok (.bl (decide (j ≤ i))) h
  | _, _, _ => .no
theorem snd_lt : Snd2 K gLt (fun x y H Q => rI0 (fun i j => .bl (decide (i < j))) x y H Q ∨ ∃ i j, x = .str i ∧ y = .str j ∧ Q (.bl (decide (i.cps.toList < j.cps.toList))) H) := by
  intro E ι H h x y dx dy Q rx ry hr o
  cases rx with
  | int i =>
    cases ry with
    | int j => exact .inl ⟨i, j, rfl, rfl, ans o (.bl _) hr⟩
    | _ => exact o.elim
  | str i =>
    cases ry with
    | str j => exact .inr ⟨i, j, rfl, rfl, ans o (.bl _) hr⟩
    | _ => exact o.elim
  | _ => exact o.elim
theorem snd_le : Snd2 K gLe (fun x y H Q => rI0 (fun i j => .bl (decide (i ≤ j))) x y H Q ∨ ∃ i j, x = .str i ∧ y = .str j ∧ Q (.bl (!decide (j.cps.toList < i.cps.toList))) H) := by
  intro E ι H h x y dx dy Q rx ry hr o
  cases rx with
  | int i =>
    cases ry with
    | int j => exact .inl ⟨i, j, rfl, rfl, ans o (.bl _) hr⟩
    | _ => exact o.elim
  | str i =>
    cases ry with
    | str j => exact .inr ⟨i, j, rfl, rfl, ans o (.bl _) hr⟩
    | _ => exact o.elim
  | _ => exact o.elim
theorem snd_gt : Snd2 K gGt (rI0 fun i j => .bl (decide (j < i))) := by
  intro E ι H h x y dx dy Q rx ry hr o
  cases rx with
  | int i =>
    cases ry with
    | int j => exact ⟨i, j, rfl, rfl, ans o (.bl _) hr⟩
    | _ => exact o.elim
  | _ => exact o.elim
theorem snd_ge : Snd2 K gGe (rI0 fun i j => .bl (decide (j ≤ i))) := by
  intro E ι H h x y dx dy Q rx ry hr o
  cases rx with
  | int i =>
    cases ry with
    | int j => exact ⟨i, j, rfl, rfl, ans o (.bl _) hr⟩
    | _ => exact o.elim
  | _ => exact o.elim
def isNon : D → Bool
  | .non => true
  | _ => false
def gIs : D → D → Hd → R D
  | x, .non, h => .ok (.bl (isNon x)) h
  | .bl i, .bl j, h => .ok (.bl (i == j)) h
  | _, _, _ => .no
def gIsNot : D → D → Hd → R D
  | x, .non, h => .ok (.bl (!isNon x)) h
  | .bl i, .bl j, h => .ok (.bl (i != j)) h
  | _, _, _ => .no
def flatD : D → Bool
  | .non => true | .bl _ => true | .int _ => true | .str _ => true
  | _ => false
def eqF : D → D → Bool
  | .non, .non => true
  | .bl i, .bl j => i == j
  | .int i, .int j => i == j
  | .str i, .str j => i == j
  | .int i, .bl j => i == (if j then 1 else 0)
  | .bl i, .int j => (if i then 1 else 0) == j
  | _, _ => false
end
end MI
set_option Elab.async false
set_option linter.all false
set_option maxRecDepth 100000
set_option maxHeartbeats 4000000
namespace MI
open PySem PySem.Spec L2
section
variable {X : Cx} {K : PySem.W.Frag} {E : XD} {a b e o : Expr} {es : List Expr} {fa fb : SE} {ka : SA} {pos : Pos}
def seqD (d : D) (h : Hd) : Option (List D) := match d with
  | .tup xs => some xs
  | .rol xs => some xs
  | .ref i => match h[i]? with | some (.lst xs) => some xs | _ => none
  | _ => none
def gIx (x y : D) (h : Hd) : R D := match y with
  | .int i => (match x with
    | .str z => if z.length ≤ LINE then (match atI z.cps.toList i with | some c => .ok (.str ⟨#[c]⟩) h | none => .no) else .no
    | x => match seqD x h with
      | some xs => (match atI xs i with | some d => .ok d h | none => .no)
      | none => .no)
  | _ => .no
theorem atI_reps {ι : List Addr} {H : Hp} {vs : List V} {xs : List D} {i : Int} {d : D} (r : Reps K ι H vs xs) (e : atI xs i = some d) : ∃ v, atI vs i = some v ∧ Rep K ι H v d := by
  unfold atI at e ⊢
  rw [r.len]
  cases hx : ixN xs.length i with
  | none => rw [hx] at e; cases e
  | some j => rw [hx] at e; exact r.get e
theorem snd_ix : Snd2 K gIx (rIx K) := by
  intro E ι H h x y dx dy Q rx ry hr o
  cases ry with
  | int i =>
    have go : ∀ {p : Addr} {vs : List V} {xs : List D}, Reps K ι H vs xs → out K E (repD K) ι H (match atI xs i with | some d => .ok d h | none => .no) Q → ∃ v, atI vs i = some v ∧ Q v H := fun {p vs xs} r o => by
      cases he : atI xs i with
      | none => rw [he] at o; exact o.elim
      | some d =>
        rw [he] at o
        obtain ⟨v, h1, h2⟩ := atI_reps r he
        exact ⟨v, h1, ans o h2 hr⟩
    cases rx with
    | str z =>
      by_cases hc : z.length ≤ LINE
      · simp only [gIx, if_pos hc] at o
        cases he : atI z.cps.toList i with
        | none => rw [he] at o; exact o.elim
        | some c => rw [he] at o; exact .inr (.inr ⟨z, i, c, rfl, rfl, ll hc, he, ans o (.str _) hr⟩)
      · simp only [gIx, if_neg hc] at o; exact o.elim
    | @tup p vs xs hp r =>
      simp only [gIx, seqD] at o
      obtain ⟨v, h1, h2⟩ := go (p := p) r o
      exact .inr (.inl ⟨p, vs, i, v, rfl, rfl, SqT.of hp, h1, h2⟩)
    | @rol p vs xs hp r =>
      simp only [gIx, seqD] at o
      obtain ⟨v, h1, h2⟩ := go (p := p) r o
      exact .inl ⟨p, vs, i, v, rfl, rfl, hp.l, h1, h2⟩
    | @ref p j hp =>
      obtain ⟨ob, e1, e2⟩ := hr.at hp
      cases ob with
      | lst xs =>
        simp only [gIx, seqD, e1] at o
        obtain ⟨vs, h3, h4⟩ := e2
        obtain ⟨v, h1, h2⟩ := go (p := p) h4 o
        exact .inl ⟨p, vs, i, v, rfl, rfl, SqL.of h3, h1, h2⟩
      | dK _ => simp only [gIx, seqD, e1] at o; exact o.elim
      | dT _ => simp only [gIx, seqD, e1] at o; exact o.elim
    | _ => exact o.elim
  | _ => exact o.elim
theorem me_item (ha : ME X E a fa) (hb : ME X E b fb) (hp : PlainIx b) : ME X E (.Subscript a b pos) (s2 gIx fa fb) := me_ix ix_seq snd_ix ha hb hp
abbrev SO := Sd → Hd → R (Option Int)
abbrev MO (X : Cx) (E : XD) (e : Option Expr) (f : SO) : Prop := PO X e (lift X.K E repO f)
def oN : SO := fun _ h => .ok none h
def oS (f : SE) : SO := fun τ h => (f τ h).bind fun d h1 => match d with | .int i => .ok (some i) h1 | _ => .no
theorem PO.weak {e : Option Expr} {t t' : St → Hp → (Option Int → Hp → Prop) → Prop} (h : PO X e t) (i : ∀ σ H Q, t' σ H Q → t σ H Q) : PO X e t' := fun pins s σ H Q I q => h pins s σ H Q I (i _ _ _ q)
theorem mo_none : MO X E none oN := PO.weak po_none fun σ H Q ⟨ι, τ, h, S, Rh, o⟩ => o ι H none (.refl _ _) rfl Rh
theorem mo_some (he : ME X E e fa) : MO X E (some e) (oS fa) := by
  refine PO.weak (po_some he) fun σ H Q ⟨ι, τ, h, S, Rh, o⟩ => ?_
  refine ⟨ι, τ, h, S, Rh, out_bind o fun d h1 ι1 H1 v g1 r1 hr1 o1 => ?_⟩
  cases r1 with
  | int i => exact ⟨i, rfl, o1 ι1 H1 _ (.refl _ _) rfl hr1⟩
  | _ => exact o1.elim
def whole (n : Nat) (lo hi : Option Int) : Prop := HT.sIx n 0 lo = 0 ∧ HT.sIx n n hi = n
instance (n : Nat) (lo hi : Option Int) : Decidable (whole n lo hi) := by unfold whole; exact inferInstance
def gSl (d : D) (lo hi : Option Int) (h : Hd) : R D := match d with
  | .str z => if z.length ≤ LINE then .ok (.str ⟨(cutL z.cps.toList lo hi).toArray⟩) h else .no
  | .tup xs => if ¬ whole xs.length lo hi then .ok (.tup (cutL xs lo hi)) h else .no
  | .rol xs => .ok (.ref h.length) (h ++ [.lst (cutL xs lo hi)])
  | .scr xs => .ok (.ref h.length) (h ++ [.lst (cutL xs lo hi)])
  | .ref i => match h[i]? with | some (.lst xs) => .ok (.ref h.length) (h ++ [.lst (cutL xs lo hi)]) | _ => .no
  | _ => .no
theorem reps_cut {ι : List Addr} {H : Hp} {vs : List V} {xs : List D} (r : Reps K ι H vs xs) (lo hi : Option Int) : Reps K ι H (cutV vs lo hi) (cutL xs lo hi) := by
  unfold cutV cutL
  rw [r.len]
  exact (r.drop _).take _
theorem snd_sl {ι : List Addr} {H : Hp} {h : Hd} {x : V} {d : D} {lo hi : Option Int} {Q : VK} (rx : Rep K ι H x d) (hr : HRep K ι H h) (o : out K E (repD K) ι H (gSl d lo hi h) Q) : rSlS x lo hi H Q ∨ rSlT K x lo hi H Q ∨ rSlL K x lo hi H Q := by
  cases rx with
  | str z =>
    by_cases hc : z.length ≤ LINE
    · simp only [gSl, if_pos hc] at o; exact .inl ⟨z, rfl, ll hc, ans o (.str _) hr⟩
    · simp only [gSl, if_neg hc] at o; exact o.elim
  | @tup p vs xs hp r =>
    by_cases hc : ¬ whole xs.length lo hi
    · simp only [gSl, if_pos hc] at o
      exact .inr (.inl ⟨p, vs, rfl, SqT.of hp, by rw [r.len]; exact hc, new_tup (reps_cut r lo hi) hr o⟩)
    · simp only [gSl, if_neg hc] at o; exact o.elim
  | @rol p vs xs hp r => exact .inr (.inr ⟨p, vs, rfl, hp.l, new_lst (reps_cut r lo hi) hr o⟩)
  | @scr p vs xs hp r => exact .inr (.inr ⟨p, vs, rfl, hp.l, new_lst (reps_cut r lo hi) hr o⟩)
  | @ref p j hp =>
    obtain ⟨ob, e1, e2⟩ := hr.at hp
    cases ob with
    | lst xs =>
      simp only [gSl, e1] at o
      obtain ⟨vs, h3, h4⟩ := e2
      exact .inr (.inr ⟨p, vs, rfl, SqL.of h3, new_lst (reps_cut h4 lo hi) hr o⟩)
    | dK _ => simp only [gSl, e1] at o; exact o.elim
    | dT _ => simp only [gSl, e1] at o; exact o.elim
  | _ => exact o.elim
theorem flat_of {ι : List Addr} {H : Hp} {x : V} {d : D} (r : Rep K ι H x d) (f : flatD d = true) : flatV x = true := by cases r <;> first | rfl | cases f
theorem eqF_of {ι : List Addr} {H : Hp} {x y : V} {d c : D} (r : Rep K ι H x d) (q : Rep K ι H y c) : flatD d = true → flatD c = true → eqV x y = eqF d c := fun f g => by
  cases r <;> cases q <;> first | rfl | (cases f; done) | (cases g; done)
def inD (x : D) (xs : List D) : Bool := xs.any fun y => eqF y x
theorem flats_of {ι : List Addr} {H : Hp} {vs : List V} {xs : List D} (r : Reps K ι H vs xs) (f : xs.all flatD = true) : vs.all flatV = true := by
  induction r using Reps.rec (motive_1 := fun _ _ _ => True) with
  | nil => rfl
  | cons r rs _ ih =>
    rw [List.all_cons, Bool.and_eq_true] at f ⊢
    exact ⟨flat_of r f.1, ih f.2⟩
  | _ => trivial
theorem inD_of {ι : List Addr} {H : Hp} {x : V} {d : D} {vs : List V} {xs : List D} (rx : Rep K ι H x d) (fx : flatD d = true) (r : Reps K ι H vs xs) (f : xs.all flatD = true) : inV x vs = inD d xs := by
  unfold inV inD
  induction r using Reps.rec (motive_1 := fun _ _ _ => True) with
  | nil => rfl
  | cons r rs _ ih =>
    rw [List.all_cons, Bool.and_eq_true] at f
    rw [List.any_cons, List.any_cons, ih f.2, eqF_of r rx f.1 fx]
  | _ => trivial
def gIn (neg : Bool) (x y : D) (h : Hd) : R D := match y with
  | .str T => (match x with
    | .str z => (match z.cps.toList with | [c] => .ok (.bl (if neg then !decide (c ∈ T.cps.toList) else decide (c ∈ T.cps.toList))) h | _ => .no)
    | _ => .no)
  | y => match seqD y h with
    | some xs => if flatD x = true ∧ xs.all flatD = true then .ok (.bl (if neg then !inD x xs else inD x xs)) h else .no
    | none => .no
theorem one_sign {z : Str} {c : Nat} (h : z.cps.toList = [c]) : z = ⟨#[c]⟩ := by
  obtain ⟨cps⟩ := z
  congr
  exact Array.ext' (by simpa using h)
theorem snd_in (neg : Bool) {r1 : R2} (h1 : ∀ c T H (Q : VK), Q (.bl (if neg then !decide (c ∈ T.cps.toList) else decide (c ∈ T.cps.toList))) H → r1 (.str ⟨#[c]⟩) (.str T) H Q) : Snd2 K (gIn neg) (fun x y H Q => r1 x y H Q ∨ rIn K neg x y H Q) := by
  intro E ι H h x y dx dy Q rx ry hr o
  have go : ∀ {p : Addr} {vs : List V} {xs : List D}, (SqL K H p vs ∨ SqT K H p vs) → Reps K ι H vs xs → out K E (repD K) ι H (if flatD dx = true ∧ xs.all flatD = true then .ok (.bl (if neg then !inD dx xs else inD dx xs)) h else .no) Q → rIn K neg x (.ref p) H Q := fun {p vs xs} sq r o => by
    split at o
    · rename_i hc
      exact ⟨p, vs, rfl, sq, flat_of rx hc.1, flats_of r hc.2, by rw [inD_of rx hc.1 r hc.2]; exact ans o (.bl _) hr⟩
    · exact o.elim
  cases ry with
  | str T =>
    cases rx with
    | str z =>
      simp only [gIn] at o
      split at o
      · rename_i c hz
        rw [one_sign hz]
        exact .inl (h1 c T H Q (ans o (.bl _) hr))
      · exact o.elim
    | _ => exact o.elim
  | @tup p vs xs hp r => simp only [gIn, seqD] at o; exact .inr (go (.inr (SqT.of hp)) r o)
  | @rol p vs xs hp r => simp only [gIn, seqD] at o; exact .inr (go (.inl hp.l) r o)
  | @ref p j hp =>
    obtain ⟨ob, e1, e2⟩ := hr.at hp
    cases ob with
    | lst xs =>
      simp only [gIn, seqD, e1] at o
      obtain ⟨vs, h3, h4⟩ := e2
      exact .inr (go (.inl (SqL.of h3)) h4 o)
    | dK _ => simp only [gIn, seqD, e1] at o; exact o.elim
    | dT _ => simp only [gIn, seqD, e1] at o; exact o.elim
  | _ => exact o.elim
theorem snd_in0 : Snd2 K (gIn false) (fun x y H Q => (∃ c T, x = .str ⟨#[c]⟩ ∧ y = .str T ∧ Q (.bl (decide (c ∈ T.cps.toList))) H) ∨ rIn K false x y H Q) := snd_in false fun c T H Q q => ⟨c, T, rfl, rfl, q⟩
theorem snd_in1 : Snd2 K (gIn true) (fun x y H Q => (∃ c T, x = .str ⟨#[c]⟩ ∧ y = .str T ∧ Q (.bl (!decide (c ∈ T.cps.toList))) H) ∨ rIn K true x y H Q) := snd_in true fun c T H Q q => ⟨c, T, rfl, rfl, q⟩
def gLen : List D → Hd → R D
  | [.str z], h => if z.length ≤ LINE then .ok (.int z.length) h else .no
  | [x], h => (match seqD x h with | some xs => .ok (.int xs.length) h | none => .no)
  | _, _ => .no
theorem snd_len : SndL K gLen (fun xs H Q => (∃ p ys, xs = [.ref p] ∧ (SqL K H p ys ∨ SqT K H p ys) ∧ Q (.int ys.length) H) ∨ ∃ z, xs = [.str z] ∧ z.length ≤ sizeLine ∧ Q (.int z.length) H) := by
  intro E ι H h xs ds Q r hr o
  cases r with
  | nil => exact o.elim
  | cons r rs =>
    cases rs with
    | cons _ _ => exact (show False by cases r <;> exact o).elim
    | nil =>
      cases r with
      | str z =>
        by_cases hc : z.length ≤ LINE
        · simp only [gLen, if_pos hc] at o; exact .inr ⟨z, rfl, ll hc, ans o (.int _) hr⟩
        · simp only [gLen, if_neg hc] at o; exact o.elim
      | @tup p vs xs hp r => simp only [gLen, seqD] at o; exact .inl ⟨p, vs, rfl, .inr (SqT.of hp), by rw [r.len]; exact ans o (.int _) hr⟩
      | @rol p vs xs hp r => simp only [gLen, seqD] at o; exact .inl ⟨p, vs, rfl, .inl hp.l, by rw [r.len]; exact ans o (.int _) hr⟩
      | @ref p j hp =>
        obtain ⟨ob, e1, e2⟩ := hr.at hp
        cases ob with
        | lst xs =>
          simp only [gLen, seqD, e1] at o
          obtain ⟨vs, h3, h4⟩ := e2
          exact .inl ⟨p, vs, rfl, .inl (SqL.of h3), by rw [h4.len]; exact ans o (.int _) hr⟩
        | dK _ => simp only [gLen, seqD, e1] at o; exact o.elim
        | dT _ => simp only [gLen, seqD, e1] at o; exact o.elim
      | _ => exact o.elim
def gAbs : List D → Hd → R D
  | [.int i], h => .ok (.int (if i < 0 then -i else i)) h
  | _, _ => .no
theorem snd_abs : SndL K gAbs (fun xs H Q => ∃ i, xs = [.int i] ∧ Q (.int (if i < 0 then -i else i)) H) := by
  intro E ι H h xs ds Q r hr o
  unfold gAbs at o
  split at o
  · cases r with | cons r rs => cases r; cases rs; exact ⟨_, rfl, ans o (.int _) hr⟩
  · exact o.elim
def gMax2 : List D → Hd → R D
  | [.int i, .int j], h => .ok (.int (if j > i then j else i)) h
  | _, _ => .no
def gMin2 : List D → Hd → R D
  | [.int i, .int j], h => .ok (.int (if j < i then j else i)) h
  | _, _ => .no
def gInt : List D → Hd → R D
  | [.int i], h => .ok (.int i) h
  | [.bl k], h => .ok (.int (if k then 1 else 0)) h
  | _, _ => .no
def tyD (d : D) (h : Hd) : Option String := match d with
  | .non => some "NoneType" | .bl _ => some "bool" | .int _ => some "int" | .str _ => some "str" | .tup _ => some "tuple" | .rol _ => some "list"
  | .ref i => (match h[i]? with | some (.lst _) => some "list" | some (.dK _) => some "dict" | _ => none)
  | _ => none
def subT (t T : String) : Option Bool :=
  if t ∈ ["NoneType", "bool", "int", "str", "tuple", "list", "dict"] ∧ T ∈ ["bool", "int", "str", "tuple", "list", "dict"] then some (t == T || (t == "bool" && T == "int")) else none
theorem subT_ok {t T : String} {b : Bool} (e : subT t T = some b) : PySem.W.kitOne K (.type t) (.type T) = some b := by
  unfold subT at e
  split at e
  · rename_i h
    obtain ⟨h1, h2⟩ := h
    simp only [List.mem_cons, List.not_mem_nil, or_false] at h1 h2
    rcases h1 with rfl | rfl | rfl | rfl | rfl | rfl | rfl <;> rcases h2 with rfl | rfl | rfl | rfl | rfl | rfl <;> (cases e; rfl)
  · cases e
def gIsi : List D → Hd → R D
  | [x, .ty T], h => (match tyD x h with | some t => (match subT t T with | some b => .ok (.bl b) h | none => .no) | none => .no)
  | _, _ => .no
theorem tyD_ok {ι : List Addr} {H : Hp} {h : Hd} {x : V} {d : D} {t : String} (r : Rep K ι H x d) (hr : HRep K ι H h) (e : tyD d h = some t) : TyOf K H x (.type t) := by
  cases r with
  | non => cases e; exact .non
  | bl b => cases e; exact .bl b
  | int b => cases e; exact .int b
  | str b => cases e; exact .str b
  | ty _ => cases e
  | tup hp r => cases e; exact .tup hp
  | rol hp r => cases e; obtain ⟨o, hp⟩ := hp; exact .frz hp
  | scr _ _ => cases e
  | rod _ _ _ => cases e
  | rdT _ _ _ => cases e
  | exc _ _ _ => cases e
  | ref hp =>
    obtain ⟨ob, e1, e2⟩ := hr.at hp
    cases ob with
    | lst xs => simp only [tyD, e1] at e; cases e; obtain ⟨vs, h3, h4⟩ := e2; exact .lst h3
    | dK _ => simp only [tyD, e1] at e; cases e; obtain ⟨vs, h3, h4⟩ := e2; exact .dK h3
    | dT _ => simp only [tyD, e1] at e; cases e
theorem snd_isi : SndL K gIsi (fun xs H Q => ∃ x T t b, xs = [x, .ty T] ∧ TyOf K H x t ∧ PySem.W.kitOne K t (.type T) = some b ∧ Q (.bl b) H) := by
  intro E ι H h xs ds Q r hr o
  unfold gIsi at o
  split at o
  · rename_i d T
    cases r with
    | cons r rs =>
      cases rs with
      | cons q rs =>
        cases q; cases rs
        cases ht : tyD d h with
        | none => rw [ht] at o; exact o.elim
        | some t =>
          rw [ht] at o
          cases hb : subT t T with
          | none => simp only [hb] at o; exact o.elim
          | some b =>
            simp only [hb] at o
            exact ⟨_, T, .type t, b, rfl, tyD_ok r hr ht, subT_ok hb, ans o (.bl _) hr⟩
  · exact o.elim
end
end MI
set_option Elab.async false
set_option linter.all false
set_option maxRecDepth 100000
set_option maxHeartbeats 4000000
namespace MI
open PySem PySem.Spec L2
section
variable {X : Cx} {K : PySem.W.Frag} {E : XD} {a b e o : Expr} {es : List Expr} {fa fb fo : SE} {ka : SA} {pos apos cpos : Pos} {name : Str} {idn : String}
def SndM (K : PySem.W.Frag) (g : D → List D → Hd → R D) (r : V → List V → Hp → VK → Prop) : Prop := ∀ (E : XD) ι H h x dx xs ds Q, Rep K ι H x dx → Reps K ι H xs ds → HRep K ι H h → out K E (repD K) ι H (g dx ds h) Q → r x xs H Q
def isL (d : D) (h : Hd) : Bool := match d with | .ref i => (match h[i]? with | some (.lst _) => true | _ => false) | .rol _ => true | _ => false
def sML (g : D → List D → Hd → R D) (f : SE) (k : SA) : SE := fun τ h => (f τ h).bind fun d h1 => if isL d h1 = true then (k τ h1).bind fun ds h2 => g d ds h2 else .no
theorem isL_ok {ι : List Addr} {H : Hp} {h : Hd} {x : V} {d : D} (r : Rep K ι H x d) (hr : HRep K ι H h) (e : isL d h = true) : tyV K "list" x H := by
  cases r with
  | rol hp _ => exact .inl ⟨rfl, _, hp.l⟩
  | ref hp =>
    obtain ⟨ob, e1, e2⟩ := hr.at hp
    cases ob with
    | lst xs => obtain ⟨vs, h3, _⟩ := e2; exact .inl ⟨rfl, _, SqL.of h3⟩
    | dK _ => simp [isL, e1] at e
    | dT _ => simp [isL, e1] at e
  | _ => cases e
theorem me_ml {r : V → List V → Hp → VK → Prop} {g : D → List D → Hd → R D} (slot : Slot "list" name idn) (hty : typeOf (.builtin idn) = pure (.type "method_descriptor")) (hm : MtR X idn r) (hs : SndM X.K g r) (ho : ME X E o fo) (ha : MA X E (e :: es) ka)
    (hbase : attributeBase o name X.env (eval o X.env) = eval o X.env := by rfl)
    (hfew : ((backTo cpos (starEach (e :: es) X.env)).all (fun x => !x.1) && (backToKw cpos (keywordEach [] X.env)).all (fun x => x.1.isSome)
      && decide ((e :: es).length + ([] : List Keyword).length + (if ([] : List Keyword).isEmpty then 0 else 1) < 30)) = true := by rfl)
    (hline : (apos.endLine == cpos.line) = true := by rfl) (hst : starEach (e :: es) X.env = (false, eval e X.env) :: starEach es X.env := by rfl) (hplain : (backTo cpos (starEach es X.env)).any (·.1) = false := by rfl) :
    ME X E (.Call (.Attribute o name apos) (e :: es) [] cpos) (sML g fo ka) := by
  refine PE.weak (pe_bm PySem.F.plainAttrs_list slot hty hm ho ha hbase hfew hline hst hplain) fun σ H Q ⟨ι, τ, h, S, Rh, o⟩ => ?_
  refine ⟨ι, τ, h, S, Rh, out_bind o fun d h1 ι1 H1 v g1 r1 hr1 o1 => ?_⟩
  by_cases hc : isL d h1 = true
  · rw [if_pos hc] at o1
    refine ⟨isL_ok r1 hr1 hc, ι1, τ, h1, S.mono g1, hr1, out_bind o1 fun ds h2 ι2 H2 vs g2 r2 hr2 o2 => ?_⟩
    exact hs E ι2 H2 h2 v d vs ds Q (r1.mono g2) r2 hr2 o2
  · rw [if_neg hc] at o1; exact o1.elim
def gApp : D → List D → Hd → R D
  | .ref i, [y], h => (match h[i]? with | some (.lst xs) => if xs.length < LINE then .ok .non (h.set i (.lst (xs ++ [y]))) else .no | _ => .no)
  | _, _, _ => .no
theorem snd_app : SndM K gApp rAppend := by
  intro E ι H h x dx xs ds Q rx r hr o
  unfold gApp at o
  split at o
  · rename_i i y
    cases rx with
    | @ref p _ hp =>
      cases r with
      | cons r1 rs =>
        cases rs
        split at o
        · rename_i xs hx
          obtain ⟨vs, h3, h4⟩ := hr.lst hp hx
          split at o
          · rename_i hc
            exact ⟨p, vs, _, rfl, rfl, h3, by rw [h4.len, sLine]; exact hc, put_lst (h4.snoc r1) hr hp .non o⟩
          · exact o.elim
        · exact o.elim
  · exact o.elim
def gPop : D → List D → Hd → R D
  | .ref i, [], h => (match h[i]? with | some (.lst xs) => (match xs[xs.length - 1]? with | some y => .ok y (h.set i (.lst xs.dropLast)) | none => .no) | _ => .no)
  | _, _, _ => .no
def gPopAt : D → List D → Hd → R D
  | .ref i, [.int j], h => (match h[i]? with | some (.lst xs) => (match ixN xs.length j with | some k => (match xs[k]? with | some y => if xs.length ≤ LINE then .ok y (h.set i (.lst (xs.eraseIdx k))) else .no | none => .no) | none => .no) | _ => .no)
  | _, _, _ => .no
theorem snd_popAt : SndM K gPopAt rPopAt := by
  intro E ι H h x dx xs ds Q rx r hr o
  unfold gPopAt at o
  split at o
  · rename_i i j
    cases rx with
    | @ref p _ hp =>
      cases r with
      | cons r1 rs =>
        cases r1; cases rs
        split at o
        · rename_i xs hx
          obtain ⟨vs, h3, h4⟩ := hr.lst hp hx
          split at o
          · rename_i k hk
            split at o
            · rename_i y hy
              split at o
              · rename_i hl
                obtain ⟨v, h5, h6⟩ := h4.get hy
                obtain ⟨q1, q2, q3, q4⟩ := ixN_seq hk
                have hl' : xs.length ≤ 16777216 := hl
                exact ⟨p, vs, j, k, v, rfl, rfl, h3, by omega, by omega, by rw [h4.len]; exact q1, h5, put_lst (h4.erase k) hr hp h6 o⟩
              · exact o.elim
            · exact o.elim
          · exact o.elim
        · exact o.elim
  · exact o.elim
def sMS (g : D → List D → Hd → R D) (f : SE) (k : SA) : SE := fun τ h => (f τ h).bind fun d h1 => match d with | .str z => (k τ h1).bind fun ds h2 => g (.str z) ds h2 | _ => .no
theorem me_ms {r : V → List V → Hp → VK → Prop} {g : D → List D → Hd → R D} (slot : Slot "str" name idn) (hty : typeOf (.builtin idn) = pure (.type "method_descriptor")) (hm : MtR X idn r) (hs : SndM X.K g r) (ho : ME X E o fo) (ha : MA X E (e :: es) ka)
    (hbase : attributeBase o name X.env (eval o X.env) = eval o X.env := by rfl)
    (hfew : ((backTo cpos (starEach (e :: es) X.env)).all (fun x => !x.1) && (backToKw cpos (keywordEach [] X.env)).all (fun x => x.1.isSome)
      && decide ((e :: es).length + ([] : List Keyword).length + (if ([] : List Keyword).isEmpty then 0 else 1) < 30)) = true := by rfl)
    (hline : (apos.endLine == cpos.line) = true := by rfl) (hst : starEach (e :: es) X.env = (false, eval e X.env) :: starEach es X.env := by rfl) (hplain : (backTo cpos (starEach es X.env)).any (·.1) = false := by rfl) :
    ME X E (.Call (.Attribute o name apos) (e :: es) [] cpos) (sMS g fo ka) := by
  refine PE.weak (pe_sm slot hty hm ho ha hbase hfew hline hst hplain) fun σ H Q ⟨ι, τ, h, S, Rh, o⟩ => ?_
  refine ⟨ι, τ, h, S, Rh, out_bind o fun d h1 ι1 H1 v g1 r1 hr1 o1 => ?_⟩
  cases r1 with
  | str z => exact ⟨⟨z, rfl⟩, ι1, τ, h1, S.mono g1, hr1, out_bind o1 fun ds h2 ι2 H2 vs g2 r2 hr2 o2 => hs E ι2 H2 h2 _ _ vs ds Q (.str z) r2 hr2 o2⟩
  | _ => exact o1.elim
def gFind : D → List D → Hd → R D
  | .str T, [.str z], h => (match z.cps.toList with | [c] => .ok (.int (findC T c)) h | _ => .no)
  | _, _, _ => .no
theorem snd_find : SndM K gFind (fun x xs H Q => ∃ T c, x = .str T ∧ xs = [.str ⟨#[c]⟩] ∧ Q (.int (findC T c)) H) := by
  intro E ι H h x dx xs ds Q rx r hr o
  unfold gFind at o
  split at o
  · cases rx
    cases r with
    | cons r1 rs =>
      cases r1; cases rs
      split at o
      · rename_i c hz
        exact ⟨_, c, rfl, by rw [one_sign hz], ans o (.int _) hr⟩
      · exact o.elim
  · exact o.elim
def gIndex : D → List D → Hd → R D
  | .str T, [.str z], h => (match z.cps.toList with | [c] => if c ∈ T.cps.toList then .ok (.int (findC T c)) h else .no | _ => .no)
  | _, _, _ => .no
theorem snd_index : SndM K gIndex (fun x xs H Q => ∃ T c, x = .str T ∧ xs = [.str ⟨#[c]⟩] ∧ c ∈ T.cps.toList ∧ Q (.int (findC T c)) H) := by
  intro E ι H h x dx xs ds Q rx r hr o
  unfold gIndex at o
  split at o
  · cases rx
    cases r with
    | cons r1 rs =>
      cases r1; cases rs
      split at o
      · rename_i c hz
        split at o
        · rename_i hc
          exact ⟨_, c, rfl, by rw [one_sign hz], hc, ans o (.int _) hr⟩
        · exact o.elim
      · exact o.elim
  · exact o.elim
def strsD : List D → Option (List Str)
  | [] => some []
  | .str z :: r => (strsD r).map (z :: ·)
  | _ :: _ => none
theorem strsD_ok {ι : List Addr} {H : Hp} : ∀ {vs : List V} {xs : List D} {zs : List Str}, Reps K ι H vs xs → strsD xs = some zs → vs = zs.map V.str
  | _, _, _, .nil, e => by cases e; rfl
  | _, _, zs, .cons (d := d) r rs, e => by
    cases r with
    | str z =>
      simp only [strsD, Option.map_eq_some_iff] at e
      obtain ⟨ws, h1, rfl⟩ := e
      rw [strsD_ok rs h1]; rfl
    | _ => cases e
def gJoin : D → List D → Hd → R D
  | .str sep, [.ref i], h => (match h[i]? with | some (.lst xs) => (match strsD xs with | some zs => if (zs.map (·.length)).sum + zs.length * sep.length ≤ 16777216 then .ok (.str (Txt.join sep zs)) h else .no | none => .no) | _ => .no)
  | .str sep, [.rol xs], h => (match strsD xs with | some zs => if (zs.map (·.length)).sum + zs.length * sep.length ≤ 16777216 then .ok (.str (Txt.join sep zs)) h else .no | none => .no)
  | _, _, _ => .no
theorem snd_join : SndM K gJoin (fun x xs H Q => ∃ sep p zs, x = .str sep ∧ xs = [.ref p] ∧ SqL K H p (zs.map V.str) ∧ (zs.map (·.length)).sum + zs.length * sep.length ≤ 16777216 ∧ Q (.str (Txt.join sep zs)) H) := by
  intro E ι H h x dx xs ds Q rx r hr o
  unfold gJoin at o
  split at o
  · rename_i sep i
    cases rx
    cases r with
    | cons r1 rs =>
      cases rs
      cases r1 with
      | @ref p _ hp =>
        split at o
        · rename_i xs hx
          obtain ⟨vs, h3, h4⟩ := hr.lst hp hx
          split at o
          · rename_i zs hz
            split at o
            · rename_i hc
              exact ⟨sep, p, zs, rfl, rfl, SqL.of (by rw [h3, strsD_ok h4 hz]), hc, ans o (.str _) hr⟩
            · exact o.elim
          · exact o.elim
        · exact o.elim
  · rename_i sep xs
    cases rx
    cases r with
    | cons r1 rs =>
      cases rs
      cases r1 with
      | @rol p vs xs hp r =>
        split at o
        · rename_i zs hz
          split at o
          · rename_i hc
            exact ⟨sep, p, zs, rfl, rfl, by rw [← strsD_ok r hz]; exact hp.l, hc, ans o (.str _) hr⟩
          · exact o.elim
        · exact o.elim
  · exact o.elim
def gList : List D → Hd → R D
  | [.str z], h => if z.length ≤ LINE then .ok (.ref h.length) (h ++ [.lst (signsD z)]) else .no
  | [x], h => (match seqD x h with | some xs => .ok (.ref h.length) (h ++ [.lst xs]) | none => .no)
  | _, _ => .no
theorem reps_signs {ι : List Addr} {H : Hp} (z : Str) : Reps K ι H (signsV z) (signsD z) := by
  unfold signsV signsD
  induction z.cps.toList with
  | nil => exact .nil
  | cons c cs ih => exact .cons (.str _) ih
theorem snd_list : SndL K gList (fun xs H Q => (∃ p ys, xs = [.ref p] ∧ (SqL K H p ys ∨ SqT K H p ys) ∧ ∀ l, H l = none → Q (.ref l) (upd H l (.lst ys))) ∨ ∃ z, xs = [.str z] ∧ z.length ≤ sizeLine ∧ ∀ l, H l = none → Q (.ref l) (upd H l (.lst (signsV z)))) := by
  intro E ι H h xs ds Q r hr o
  cases r with
  | nil => exact o.elim
  | cons r rs =>
    cases rs with
    | cons _ _ => exact (show False by cases r <;> exact o).elim
    | nil =>
      cases r with
      | str z =>
        by_cases hc : z.length ≤ LINE
        · simp only [gList, if_pos hc] at o; exact .inr ⟨z, rfl, ll hc, new_lst (reps_signs z) hr o⟩
        · simp only [gList, if_neg hc] at o; exact o.elim
      | @tup p vs xs hp r => simp only [gList, seqD] at o; exact .inl ⟨p, vs, rfl, .inr (SqT.of hp), new_lst r hr o⟩
      | @rol p vs xs hp r => simp only [gList, seqD] at o; exact .inl ⟨p, vs, rfl, .inl hp.l, new_lst r hr o⟩
      | @ref p j hp =>
        obtain ⟨ob, e1, e2⟩ := hr.at hp
        cases ob with
        | lst xs =>
          simp only [gList, seqD, e1] at o
          obtain ⟨vs, h3, h4⟩ := e2
          exact .inl ⟨p, vs, rfl, .inl (SqL.of h3), new_lst h4 hr o⟩
        | dK _ => simp only [gList, seqD, e1] at o; exact o.elim
        | dT _ => simp only [gList, seqD, e1] at o; exact o.elim
      | _ => exact o.elim
def gTuple : List D → Hd → R D
  | [.str z], h => if z.length ≤ LINE then .ok (.tup (signsD z)) h else .no
  | [x], h => (match seqD x h with | some xs => .ok (.tup xs) h | none => .no)
  | _, _ => .no
theorem snd_tuple : SndL K gTuple (fun xs H Q => (∃ p ys, xs = [.ref p] ∧ ((SqL K H p ys ∧ ∀ l, H l = none → Q (.ref l) (upd H l (.tup ys))) ∨ (SqT K H p ys ∧ Q (.ref p) H))) ∨ ∃ z, xs = [.str z] ∧ z.length ≤ sizeLine ∧ ∀ l, H l = none → Q (.ref l) (upd H l (.tup (signsV z)))) := by
  intro E ι H h xs ds Q r hr o
  cases r with
  | nil => exact o.elim
  | cons r rs =>
    cases rs with
    | cons _ _ => exact (show False by cases r <;> exact o).elim
    | nil =>
      cases r with
      | str z =>
        by_cases hc : z.length ≤ LINE
        · simp only [gTuple, if_pos hc] at o; exact .inr ⟨z, rfl, ll hc, new_tup (reps_signs z) hr o⟩
        · simp only [gTuple, if_neg hc] at o; exact o.elim
      | @tup p vs xs hp r => simp only [gTuple, seqD] at o; exact .inl ⟨p, vs, rfl, .inr ⟨SqT.of hp, ans o (.tup hp r) hr⟩⟩
      | @rol p vs xs hp r => simp only [gTuple, seqD] at o; exact .inl ⟨p, vs, rfl, .inl ⟨hp.l, new_tup r hr o⟩⟩
      | @ref p j hp =>
        obtain ⟨ob, e1, e2⟩ := hr.at hp
        cases ob with
        | lst xs =>
          simp only [gTuple, seqD, e1] at o
          obtain ⟨vs, h3, h4⟩ := e2
          exact .inl ⟨p, vs, rfl, .inl ⟨SqL.of h3, new_tup h4 hr o⟩⟩
        | dK _ => simp only [gTuple, seqD, e1] at o; exact o.elim
        | dT _ => simp only [gTuple, seqD, e1] at o; exact o.elim
      | _ => exact o.elim
def blsD : List D → Option (List Bool)
  | [] => some []
  | .bl z :: r => (blsD r).map (z :: ·)
  | _ :: _ => none
theorem blsD_ok {ι : List Addr} {H : Hp} : ∀ {vs : List V} {xs : List D} {zs : List Bool}, Reps K ι H vs xs → blsD xs = some zs → vs = zs.map V.bl
  | _, _, _, .nil, e => by cases e; rfl
  | _, _, zs, .cons (d := d) r rs, e => by
    cases r with
    | bl z =>
      simp only [blsD, Option.map_eq_some_iff] at e
      obtain ⟨ws, h1, rfl⟩ := e
      rw [blsD_ok rs h1]; rfl
    | _ => cases e
theorem blsD_map (bs : List Bool) : blsD (bs.map D.bl) = some bs := by
  induction bs with
  | nil => rfl
  | cons b bs ih => simp [blsD, ih]
def gAll : List D → Hd → R D
  | [.ref i], h => (match h[i]? with | some (.lst xs) => (match blsD xs with | some bs => .ok (.bl (bs.all id)) h | none => .no) | _ => .no)
  | [.rol xs], h => (match blsD xs with | some bs => .ok (.bl (bs.all id)) h | none => .no)
  | _, _ => .no
theorem snd_all : SndL K gAll (fun xs H Q => ∃ (p : Addr) (bs : List Bool), xs = [.ref p] ∧ SqL K H p (bs.map V.bl) ∧ Q (.bl (bs.all id)) H) := by
  intro E ι H h xs ds Q r hr o
  unfold gAll at o
  split at o
  · cases r with
    | cons r rs =>
      cases rs
      cases r with
      | @ref p _ hp =>
        split at o
        · rename_i xs hx
          obtain ⟨vs, h3, h4⟩ := hr.lst hp hx
          split at o
          · rename_i bs hb
            exact ⟨p, bs, rfl, SqL.of (by rw [h3, blsD_ok h4 hb]), ans o (.bl _) hr⟩
          · exact o.elim
        · exact o.elim
  · cases r with
    | cons r rs =>
      cases rs
      cases r with
      | @rol p vs xs hp r =>
        split at o
        · rename_i bs hb
          exact ⟨p, bs, rfl, by rw [← blsD_ok r hb]; exact hp.l, ans o (.bl _) hr⟩
        · exact o.elim
  · exact o.elim
end
end MI
set_option Elab.async false
set_option linter.all false
set_option maxRecDepth 100000
set_option maxHeartbeats 4000000
theorem L2.Room.u {k : Nat} {A : PySem.Around} (r : L2.Room k A) : A.units + 64 < PySem.cLine := r.units
namespace MI
open PySem PySem.Spec L2
mutual
def eqD : D → D → Bool
  | .non, .non => true
  | .bl a, .bl b => a == b
  | .bl a, .int b => (if a then 1 else 0) == b
  | .int a, .bl b => a == (if b then 1 else 0)
  | .int a, .int b => a == b
  | .str a, .str b => a == b
  | .tup xs, .tup ys => eqDs xs ys
  | _, _ => false
def eqDs : List D → List D → Bool
  | [], [] => true
  | x :: xs, y :: ys => eqD x y && eqDs xs ys
  | _, _ => false
end
def pur : Nat → D → Bool
  | _, .non => true
  | _, .bl _ => true
  | _, .int _ => true
  | _, .str _ => true
  | n + 1, .tup xs => xs.all (pur n)
  | _, _ => false
theorem pur_up {n : Nat} : ∀ {m : Nat} {d : D}, n ≤ m → pur n d = true → pur m d = true := by
  induction n with
  | zero => intro m d _ h; cases d <;> first | (cases m <;> rfl) | (cases h; done)
  | succ n ih =>
    intro m d hm h
    cases m with
    | zero => omega
    | succ m =>
      cases d with
      | tup xs =>
        simp only [pur, List.all_eq_true] at h ⊢
        exact fun x hx => ih (by omega) (h x hx)
      | _ => first | rfl | (cases h; done)
def pairE (xs ys : List D) (j : Nat) : Bool := match xs[j]?, ys[j]? with | some x, some y => eqD x y | _, _ => false
theorem eqDs_all : ∀ xs ys : List D, ((List.range (min xs.length ys.length)).all (pairE xs ys) && xs.length == ys.length) = eqDs xs ys
  | [], [] => by simp [eqDs]
  | [], _ :: _ => by simp [eqDs]
  | _ :: _, [] => by simp [eqDs]
  | x :: xs, y :: ys => by
    have ih := eqDs_all xs ys
    rw [show min (x :: xs).length (y :: ys).length = min xs.length ys.length + 1 by simp only [List.length_cons]; omega, List.range_succ_eq_map]
    rw [List.all_cons, List.all_map]
    have e : (pairE (x :: xs) (y :: ys) ∘ Nat.succ) = pairE xs ys := by funext j; simp [pairE]
    rw [e]
    simp only [eqDs]
    rw [← ih]
    have e2 : ((x :: xs).length == (y :: ys).length) = (xs.length == ys.length) := by simp
    rw [e2, Bool.and_assoc]
    rfl
section
variable {K : PySem.W.Frag} {ι : List Addr} {H : Hp}
theorem eqD_same : ∀ (n : Nat) {v : V} {d e : D}, Rep K ι H v d → Rep K ι H v e → pur n d = true → pur n e = true → eqD d e = true := by
  intro n
  induction n with
  | zero => intro v d e r q p1 p2; cases r <;> cases q <;> first | (simp [eqD]; done) | (cases p1; done) | (cases p2; done)
  | succ n ih =>
    intro v d e r q p1 p2
    cases r with
    | @tup a vs xs h rs =>
      cases q with
      | @tup _ us ys h' qs =>
        rw [h] at h'; cases h'
        simp only [eqD]
        simp only [pur, List.all_eq_true] at p1 p2
        clear h
        induction rs using Reps.rec (motive_1 := fun _ _ _ => True) generalizing ys with
        | nil => cases qs; rfl
        | cons r rs _ ih2 =>
          cases qs with
          | cons q qs =>
            simp only [eqDs, Bool.and_eq_true]
            exact ⟨ih r q (p1 _ (List.mem_cons_self ..)) (p2 _ (List.mem_cons_self ..)), ih2 qs (fun x hx => p1 x (List.mem_cons_of_mem _ hx)) (fun x hx => p2 x (List.mem_cons_of_mem _ hx))⟩
        | _ => trivial
      | _ => cases p2
    | _ => cases q <;> first | (simp [eqD]; done) | (cases p1; done) | (cases p2; done)
theorem flat_V {n : Nat} {v : V} {d : D} (r : Rep K ι H v d) (p : pur n d = true) : (∃ xs, d = .tup xs) ∨ (flatV v = true ∧ flatD d = true) := by
  cases r <;> first | exact .inr ⟨rfl, rfl⟩ | exact .inl ⟨_, rfl⟩ | (cases n <;> cases p)
theorem eqD_flat {x y : V} {d e : D} (r : Rep K ι H x d) (q : Rep K ι H y e) (f : flatD d = true) (g : flatD e = true) : eqV x y = eqD d e := by
  cases r <;> cases q <;> first | rfl | (simp [eqV, eqD]; done) | (cases f; done) | (cases g; done)
open SeqAt in
theorem eqAt_D {P : Program} {w : World} {s : Shared} (hok : HOk P w H s.heap) : ∀ (n : Nat) (A : Around) {x y : V} {u v : Value} {d e : D}, Rep K ι H x d → Rep K ι H y e → RelV x u → RelV y v → pur n d = true → pur n e = true → A.units + n < cLine → EqAt A s u v (eqD d e) := by
  intro n
  induction n with
  | zero =>
    intro A x y u v d e r q rx ry p1 p2 hu
    rcases flat_V r p1 with ⟨xs, rfl⟩ | ⟨f1, f2⟩
    · cases p1
    · rcases flat_V q p2 with ⟨xs, rfl⟩ | ⟨g1, g2⟩
      · cases p2
      · rw [← eqD_flat r q f2 g2]; exact eqAt_V rx ry f1 g1
  | succ n ih =>
    intro A x y u v d e r q rx ry p1 p2 hu
    rcases flat_V r p1 with ⟨xs, rfl⟩ | ⟨f1, f2⟩
    · cases r with
      | @tup a vs _ ha rs =>
        cases rx
        obtain ⟨_, its, r1, t1⟩ := (Rd.of ha).ok hok
        rcases flat_V q p2 with ⟨ys, rfl⟩ | ⟨g1, g2⟩
        · cases q with
          | @tup b us _ hb qs =>
            cases ry
            obtain ⟨_, its2, r2, t2⟩ := (Rd.of hb).ok hok
            by_cases hab : a = b
            · subst hab
              rw [eqD_same (n + 1) (.tup ha rs) (.tup hb qs) p1 p2]
              exact EqAt.same _
            · have l1 : its.toArray.size = xs.length := by rw [List.size_toArray, ← r1.length, rs.len]
              have l2 : its2.toArray.size = ys.length := by rw [List.size_toArray, ← r2.length, qs.len]
              have := RcAt.tuples (A := A) (s := s) (e := pairE xs ys) t1 t2 (by omega) (fun j h1 h2 => by
                have j1 : j < xs.length := by omega
                have j2 : j < ys.length := by omega
                obtain ⟨v1, e1, q1⟩ := rs.get (List.getElem?_eq_getElem j1)
                obtain ⟨v2, e2, q2⟩ := qs.get (List.getElem?_eq_getElem j2)
                obtain ⟨u1, e3, q3⟩ := r1.get e1
                obtain ⟨u2, e4, q4⟩ := r2.get e2
                have f1 : its.toArray[j] = u1 := by simpa using (List.getElem?_eq_some_iff.mp e3).2
                have f2 : its2.toArray[j] = u2 := by simpa using (List.getElem?_eq_some_iff.mp e4).2
                have pe : pairE xs ys j = eqD xs[j] ys[j] := by simp [pairE, List.getElem?_eq_getElem j1, List.getElem?_eq_getElem j2]
                rw [f1, f2, pe]
                simp only [pur, List.all_eq_true] at p1 p2
                exact ih A.in1 q1 q2 q3 q4 (p1 _ (List.getElem_mem j1)) (p2 _ (List.getElem_mem j2)) (by rw [Around.in1_units]; omega))
              rw [l1, l2, eqDs_all] at this
              exact EqAt.of_refs hab this
        · have e0 : eqD (.tup xs) e = false := by cases e <;> first | rfl | (cases g2; done)
          rw [e0]
          cases y with
          | non => cases ry; exact EqAt.tuple_none t1 (by omega)
          | bl b => cases ry; exact EqAt.tuple_bool b t1 (by omega)
          | int b => obtain ⟨t, rfl⟩ := ry; exact EqAt.tuple_int b t t1 (by omega)
          | str b => obtain ⟨t, rfl⟩ := ry; exact EqAt.tuple_str b t t1 (by omega)
          | _ => cases g1
    · rcases flat_V q p2 with ⟨ys, rfl⟩ | ⟨g1, g2⟩
      · cases q with
        | @tup b us _ hb qs =>
          cases ry
          obtain ⟨_, its2, r2, t2⟩ := (Rd.of hb).ok hok
          have e0 : eqD d (.tup ys) = false := by cases d <;> first | rfl | (cases f2; done)
          rw [e0]
          cases x with
          | non => cases rx; exact EqAt.none_tuple t2 (by omega)
          | bl b => cases rx; exact EqAt.bool_tuple b t2 (by omega)
          | int b => obtain ⟨t, rfl⟩ := rx; exact EqAt.int_tuple b t t2 (by omega)
          | str b => obtain ⟨t, rfl⟩ := rx; exact EqAt.str_tuple b t t2 (by omega)
          | _ => cases f1
      · rw [← eqD_flat r q f2 g2]; exact eqAt_V rx ry f1 g1
open SeqAt in
theorem rcAt_V {A : Around} {s : Shared} {y x : V} {u v : Value} (ry : RelV y u) (rx : RelV x v) (fy : flatV y = true) (fx : flatV x = true) : RcAt A s u v (eqV y x) := by
  cases y with
  | non =>
    cases ry
    cases x with
    | non => cases rx; exact RcAt.none_none
    | bl b => cases rx; exact RcAt.none_bool b
    | int b => obtain ⟨t, rfl⟩ := rx; exact RcAt.none_int b t
    | str b => obtain ⟨t, rfl⟩ := rx; exact RcAt.none_str b t
    | _ => cases fx
  | bl a =>
    cases ry
    cases x with
    | non => cases rx; exact RcAt.bool_none a
    | bl b => cases rx; exact RcAt.bool_bool a b
    | int b => obtain ⟨t, rfl⟩ := rx; exact RcAt.bool_int a b t
    | str b => obtain ⟨t, rfl⟩ := rx; exact RcAt.bool_str a b t
    | _ => cases fx
  | int a =>
    obtain ⟨t', rfl⟩ := ry
    cases x with
    | non => cases rx; exact RcAt.int_none a t'
    | bl b => cases rx; exact RcAt.int_bool a t' b
    | int b => obtain ⟨t, rfl⟩ := rx; exact RcAt.int_int a t' b t
    | str b => obtain ⟨t, rfl⟩ := rx; exact RcAt.int_str a t' b t
    | _ => cases fx
  | str a =>
    obtain ⟨t', rfl⟩ := ry
    cases x with
    | non => cases rx; exact RcAt.str_none a t'
    | bl b => cases rx; exact RcAt.str_bool a t' b
    | int b => obtain ⟨t, rfl⟩ := rx; exact RcAt.str_int a t' b t
    | str b => obtain ⟨t, rfl⟩ := rx; exact RcAt.str_str a t' b t
    | _ => cases fx
  | _ => cases fy
open SeqAt in
theorem rcNeAt_V {A : Around} {s : Shared} {y x : V} {u v : Value} (ry : RelV y u) (rx : RelV x v) (fy : flatV y = true) (fx : flatV x = true) : RcNeAt A s u v (!eqV y x) := by
  cases y with
  | non =>
    cases ry
    cases x with
    | non => cases rx; exact RcNeAt.none_none
    | bl b => cases rx; exact RcNeAt.none_bool b
    | int b => obtain ⟨t, rfl⟩ := rx; exact RcNeAt.none_int b t
    | str b => obtain ⟨t, rfl⟩ := rx; exact RcNeAt.none_str b t
    | _ => cases fx
  | bl a =>
    cases ry
    cases x with
    | non => cases rx; exact RcNeAt.bool_none a
    | bl b => cases rx; exact RcNeAt.bool_bool a b
    | int b => obtain ⟨t, rfl⟩ := rx; exact RcNeAt.bool_int a b t
    | str b => obtain ⟨t, rfl⟩ := rx; exact RcNeAt.bool_str a b t
    | _ => cases fx
  | int a =>
    obtain ⟨t', rfl⟩ := ry
    cases x with
    | non => cases rx; exact RcNeAt.int_none a t'
    | bl b => cases rx; exact RcNeAt.int_bool a t' b
    | int b => obtain ⟨t, rfl⟩ := rx; exact RcNeAt.int_int a t' b t
    | str b => obtain ⟨t, rfl⟩ := rx; exact RcNeAt.int_str a t' b t
    | _ => cases fx
  | str a =>
    obtain ⟨t', rfl⟩ := ry
    cases x with
    | non => cases rx; exact RcNeAt.str_none a t'
    | bl b => cases rx; exact RcNeAt.str_bool a t' b
    | int b => obtain ⟨t, rfl⟩ := rx; exact RcNeAt.str_int a t' b t
    | str b => obtain ⟨t, rfl⟩ := rx; exact RcNeAt.str_str a t' b t
    | _ => cases fx
  | _ => cases fy
open SeqAt in
theorem tops {P : Program} {w : World} {s : Shared} {A : Around} (hok : HOk P w H s.heap) {x y : V} {u v : Value} {d e : D} (r : Rep K ι H x d) (q : Rep K ι H y e) (rx : RelV x u) (ry : RelV y v) (p1 : pur 60 d = true) (p2 : pur 60 e = true) (hu : A.units + 64 < cLine) :
    RcAt A s u v (eqD d e) ∧ RcNeAt A s u v (!eqD d e) := by
  rcases flat_V r p1 with ⟨xs, rfl⟩ | ⟨f1, f2⟩
  · cases r with
    | @tup a vs _ ha rs =>
      cases rx
      obtain ⟨_, its, r1, t1⟩ := (Rd.of ha).ok hok
      rcases flat_V q p2 with ⟨ys, rfl⟩ | ⟨g1, g2⟩
      · cases q with
        | @tup b us _ hb qs =>
          cases ry
          obtain ⟨_, its2, r2, t2⟩ := (Rd.of hb).ok hok
          have l1 : its.toArray.size = xs.length := by rw [List.size_toArray, ← r1.length, rs.len]
          have l2 : its2.toArray.size = ys.length := by rw [List.size_toArray, ← r2.length, qs.len]
          have step : ∀ j (h1 : j < its.toArray.size) (h2 : j < its2.toArray.size), EqAt A.in1 s its.toArray[j] its2.toArray[j] (pairE xs ys j) := fun j h1 h2 => by
            have j1 : j < xs.length := by omega
            have j2 : j < ys.length := by omega
            obtain ⟨v1, e1, q1⟩ := rs.get (List.getElem?_eq_getElem j1)
            obtain ⟨v2, e2, q2⟩ := qs.get (List.getElem?_eq_getElem j2)
            obtain ⟨u1, e3, q3⟩ := r1.get e1
            obtain ⟨u2, e4, q4⟩ := r2.get e2
            have f1 : its.toArray[j] = u1 := by simpa using (List.getElem?_eq_some_iff.mp e3).2
            have f2 : its2.toArray[j] = u2 := by simpa using (List.getElem?_eq_some_iff.mp e4).2
            have pe : pairE xs ys j = eqD xs[j] ys[j] := by simp [pairE, List.getElem?_eq_getElem j1, List.getElem?_eq_getElem j2]
            rw [f1, f2, pe]
            simp only [pur, List.all_eq_true] at p1 p2
            exact eqAt_D hok 59 A.in1 q1 q2 q3 q4 (p1 _ (List.getElem_mem j1)) (p2 _ (List.getElem_mem j2)) (by rw [Around.in1_units]; omega)
          have c1 := RcAt.tuples (A := A) (s := s) (e := pairE xs ys) t1 t2 (by omega) step
          have c2 := RcNeAt.tuples (A := A) (s := s) (e := pairE xs ys) t1 t2 (by omega) step
          rw [l1, l2, eqDs_all] at c1 c2
          exact ⟨c1, c2⟩
      · have e0 : eqD (.tup xs) e = false := by cases e <;> first | rfl | (cases g2; done)
        rw [e0]
        cases y with
        | non => cases ry; exact ⟨RcAt.tuple_none t1 (by omega), RcNeAt.tuple_none t1 (by omega)⟩
        | bl b => cases ry; exact ⟨RcAt.tuple_bool b t1 (by omega), RcNeAt.tuple_bool b t1 (by omega)⟩
        | int b => obtain ⟨t, rfl⟩ := ry; exact ⟨RcAt.tuple_int b t t1 (by omega), RcNeAt.tuple_int b t t1 (by omega)⟩
        | str b => obtain ⟨t, rfl⟩ := ry; exact ⟨RcAt.tuple_str b t t1 (by omega), RcNeAt.tuple_str b t t1 (by omega)⟩
        | _ => cases g1
  · rcases flat_V q p2 with ⟨ys, rfl⟩ | ⟨g1, g2⟩
    · cases q with
      | @tup b us _ hb qs =>
        cases ry
        obtain ⟨_, its2, r2, t2⟩ := (Rd.of hb).ok hok
        have e0 : eqD d (.tup ys) = false := by cases d <;> first | rfl | (cases f2; done)
        rw [e0]
        cases x with
        | non => cases rx; exact ⟨RcAt.none_tuple t2 (by omega), RcNeAt.none_tuple t2 (by omega)⟩
        | bl b => cases rx; exact ⟨RcAt.bool_tuple b t2 (by omega), RcNeAt.bool_tuple b t2 (by omega)⟩
        | int b => obtain ⟨t, rfl⟩ := rx; exact ⟨RcAt.int_tuple b t t2 (by omega), RcNeAt.int_tuple b t t2 (by omega)⟩
        | str b => obtain ⟨t, rfl⟩ := rx; exact ⟨RcAt.str_tuple b t t2 (by omega), RcNeAt.str_tuple b t t2 (by omega)⟩
        | _ => cases f1
    · rw [← eqD_flat r q f2 g2]; exact ⟨rcAt_V rx ry f1 g1, rcNeAt_V rx ry f1 g1⟩
def rEqD (K : PySem.W.Frag) : R2 := fun x y H Q => ∃ ι d e, Rep K ι H x d ∧ Rep K ι H y e ∧ pur 60 d = true ∧ pur 60 e = true ∧ Q (.bl (eqD d e)) H
theorem op_eqD {X : Cx} (hu : X.A.units + 64 < cLine) : OpR X (compareOp .Eq) (rEqD X.K) := by
  intro pins s σ H x y v u Q I rx ry h
  obtain ⟨ι, d, e, r, q, p1, p2, hq⟩ := h
  exact (tops (A := X.A) I.hok r q rx ry p1 p2 hu).1 X.prog X.w X.xe _ ⟨.bl _, H, I, rfl, hq⟩
def hEq (x y : D) (h : Hd) : R D := if pur 60 x = true ∧ pur 60 y = true then .ok (.bl (eqD x y)) h else .no
def hNe (x y : D) (h : Hd) : R D := if pur 60 x = true ∧ pur 60 y = true then .ok (.bl (!eqD x y)) h else .no
theorem snd_eqD : Snd2 K hEq (rEqD K) := by
  intro E ι H h x y dx dy Q rx ry hr o
  unfold hEq at o
  split at o
  · rename_i hc; exact ⟨ι, dx, dy, rx, ry, hc.1, hc.2, ans o (.bl _) hr⟩
  · exact o.elim
end
section
variable {X : Cx} {E : XD} {K : PySem.W.Frag}
def sDNew : SE := fun _ h => .ok (.ref h.length) (h ++ [.dK []])
theorem me_dnew {pos : Pos} : ME X E (.Dict [] [] pos) sDNew := by
  refine PE.weak pe_dnewK fun σ H Q ⟨ι, τ, h, S, Rh, o⟩ => fun p hp => ?_
  exact o (ι ++ [p]) _ _ (gr_add hp _) (.ref (by rw [List.getElem?_append_right (by rw [Rh.len]; exact Nat.le_refl _), Rh.len]; simp)) (Rh.add hp ⟨[], upd_same, rfl, .nil⟩)
def gIAdd : D → D → Hd → R D
  | .int i, .int j, h => .ok (.int (i + j)) h
  | .str x, .str y, h => if x.length + y.length ≤ LINE then .ok (.str (x ++ y)) h else .no
  | _, _, _ => .no
theorem snd_iadd : Snd2 K gIAdd (fun x y H Q => rI0 (fun i j => .int (i + j)) x y H Q ∨ ∃ i j, x = .str i ∧ y = .str j ∧ i.length + j.length ≤ sizeLine ∧ Q (.str (i ++ j)) H) := by
  intro E ι H h x y dx dy Q rx ry hr o
  cases rx with
  | int i =>
    cases ry with
    | int j => exact .inl ⟨i, j, rfl, rfl, ans o (.int _) hr⟩
    | _ => exact o.elim
  | str i =>
    cases ry with
    | str j =>
      by_cases hc : i.length + j.length ≤ LINE
      · simp only [gIAdd, if_pos hc] at o; exact .inr ⟨i, j, rfl, rfl, ll hc, ans o (.str _) hr⟩
      · simp only [gIAdd, if_neg hc] at o; exact o.elim
    | _ => exact o.elim
  | _ => exact o.elim
theorem bt_bool : bootBuiltins "bool" = some (.type "bool") := by first | exact PySem.boot_bool | exact PyProof.Rows.boot_bool
theorem mgs_cons {e : Expr} {es : List Expr} {g : SG} {ks : SGs} (h1 : MG X E e g) (h2 : MGs X E es ks) (hs : (assignEach (e :: es) X.env).map (·.2) = assign e X.env :: (assignEach es X.env).map (·.2) := by rfl) : MGs X E (e :: es) (kCons g ks) :=
  PGs.weak (pgs_cons h1 h2 hs) fun vs σ H Q q => gcons_of q
end
end MI
set_option Elab.async false
set_option linter.all false
set_option maxRecDepth 100000
set_option maxHeartbeats 4000000
namespace ZP
open PySem PySem.Spec PySem.Builtin PySem.Builtin.SmallTypes
section
variable {prog : Program} {w : World} {A : Around} {E : Value → Shared → Prop} {s : Shared}
theorem stop_ok {α : Type} {Q : α → Shared → Prop} (hh : A.handled = none) (q : ∀ h' e, (∀ b o, s.heap.get? b = some o → h'.get? b = some o) → (∃ o, h'.get? e = some o ∧ o.cls = .type "StopIteration") → E (.ref e) { s with heap := h' }) :
    wpAny (model prog w) A (stopIteration : Sem α) Q E s := by
  have none_first : firstArgMember (.type "StopIteration") [] = pure Value.none := by first | rfl | (simp only [firstArgMember]; rfl)
  rw [stopIteration]
  apply wpAny_bind
  rw [newExc, newTuple]
  apply wpAny_bind
  apply wpAny_newObj_type _ (by size_fits)
  rw [none_first, pure_bind]
  apply wpAny_newObj_type _ (by size_fits)
  apply wpAny_raiseNew_none hh
  exact q _ _ (fun b o z => Heap.get?_push_of_some _ (Heap.get?_push_of_some _ z)) ⟨_, Heap.get?_push_size _ rfl, rfl⟩
theorem tup_item {it t : Addr} {i : Nat} {items : Array Value} {x : Value} {Q : Value → Shared → Prop} (hi : s.heap.IsTupleIter it t i) (ht : s.heap.IsTuple t items) (hx : items[i]? = some x)
    (q : ∀ h', h'.IsTupleIter it t (i + 1) → Heap.SameBut it s.heap h' → Q x { s with heap := h' }) : wpAny (model prog w) A (nextOf (.ref it)) Q E s := by
  have ty := hi.typeIs
  obtain ⟨o, e1, e2, e3⟩ := id hi
  obtain ⟨p, f1, f2, n, f3⟩ := ht
  rw [nextOf]
  apply wpAny_bind
  apply wpAny_callSpecial?_slot (name := Str.ofString "__next__") ty F.slot_tuple_iterator_next
  apply wpAny_call_entry F.slot_tuple_iterator_next ty F.entry_tuple_iterator_next _ (F.args_tuple_iterator_next_1 _)
  change wpAny (model prog w) A.in1 (field (.ref it) 0 >>= _) _ _ _
  apply wpAny_bind; apply wpAny_field e1 e3 (x := .ref t) rfl
  change wpAny (model prog w) A.in1 (field (.ref it) 1 >>= _) _ _ _
  apply wpAny_bind; apply wpAny_field e1 e3 (x := .int i 0) rfl
  change wpAny (model prog w) A.in1 (seqItems? (.ref t) >>= _) _ _ _
  apply wpAny_bind; apply wpAny_seqItems f1 f3
  dsimp only
  rw [Int.toNat_natCast, hx]
  apply wpAny_bind
  obtain ⟨c, dd, dt, sl⟩ := o
  simp only at e2 e3
  subst e2 e3
  apply wpAny_setField e1 rfl (Nat.lt_succ_self 1)
  apply wpAny_pure
  exact ⟨x, rfl, wpAny_pure (q _ ⟨_, Heap.get?_update_self _ e1 rfl, rfl, rfl⟩ (Heap.SameBut.update ..))⟩
theorem tup_end {it t : Addr} {i : Nat} {items : Array Value} {Q : Value → Shared → Prop} (hh : A.handled = none) (hi : s.heap.IsTupleIter it t i) (ht : s.heap.IsTuple t items) (hx : items[i]? = none)
    (q : ∀ h' e, Heap.ExtBut it s.heap h' → (∃ o, h'.get? e = some o ∧ o.cls = .type "StopIteration") → E (.ref e) { s with heap := h' }) : wpAny (model prog w) A (nextOf (.ref it)) Q E s := by
  have ty := hi.typeIs
  obtain ⟨o, e1, e2, e3⟩ := id hi
  obtain ⟨p, f1, f2, n, f3⟩ := ht
  rw [nextOf]
  apply wpAny_bind
  apply wpAny_callSpecial?_slot (name := Str.ofString "__next__") ty F.slot_tuple_iterator_next
  apply wpAny_call_entry F.slot_tuple_iterator_next ty F.entry_tuple_iterator_next _ (F.args_tuple_iterator_next_1 _)
  change wpAny (model prog w) A.in1 (field (.ref it) 0 >>= _) _ _ _
  apply wpAny_bind; apply wpAny_field e1 e3 (x := .ref t) rfl
  change wpAny (model prog w) A.in1 (field (.ref it) 1 >>= _) _ _ _
  apply wpAny_bind; apply wpAny_field e1 e3 (x := .int i 0) rfl
  change wpAny (model prog w) A.in1 (seqItems? (.ref t) >>= _) _ _ _
  apply wpAny_bind; apply wpAny_seqItems f1 f3
  dsimp only
  rw [Int.toNat_natCast, hx]
  dsimp only
  obtain ⟨c, dd, dt, sl⟩ := o
  simp only at e2 e3
  subst e2 e3
  apply wpAny_bind; apply wpAny_rule
  apply wpAny_bind; apply wpAny_setField e1 rfl (Nat.succ_pos 1)
  apply stop_ok (show A.in1.handled = none from hh)
  exact fun h' e k z => q h' e (fun b o nb eb => k b o ((Heap.SameBut.update ..).extBut b o nb eb)) z
theorem draws_tup {prog : Program} {w : World} {A : Around} (hh : A.handled = none) (it t : Addr) (ne : t ≠ it) (items : Array Value) : Draws prog w A it [it, t] items.size (fun i v => items[i]? = some v) (fun i h => h.IsTupleIter it t i ∧ h.IsTuple t items) where
  live := fun _ _ st => let ⟨o, e, _⟩ := st.1; ⟨o, e⟩
  frame := fun _ _ _ st k => ⟨let ⟨o, e, r⟩ := st.1; ⟨o, k it (by simp) o e, r⟩, let ⟨o, e, r⟩ := st.2; ⟨o, k t (by simp) o e, r⟩⟩
  item := fun i s Q E hi st q => tup_item st.1 st.2 (Array.getElem?_eq_getElem hi) fun h' a b => q _ h' s.toks (Array.getElem?_eq_getElem hi) ⟨a, st.2.extBut b.extBut ne⟩ b
  done := fun s Q E st q => tup_end hh st.1 st.2 (by simp) q
end
end ZP
set_option Elab.async false
set_option linter.all false
set_option maxRecDepth 100000
set_option maxHeartbeats 4000000
namespace ZP
open PySem PySem.Spec PySem.Builtin PySem.Builtin.SmallTypes
section
variable {prog : Program} {w : World} {A : Around} {E : Value → Shared → Prop} {s : Shared} {z TI TO i1 i2 : Addr} {p q : List Addr} {n1 n2 k : Nat} {P1 P2 : Nat → Value → Prop} {S1 S2 : Nat → Heap → Prop} {a b : Value}
end
end ZP
set_option Elab.async false
set_option linter.all false
set_option maxRecDepth 100000
set_option maxHeartbeats 4000000
namespace ZP
open PySem PySem.Spec PySem.Builtin PySem.Builtin.SmallTypes L2
inductive Srk where
  | tup (a : Addr) | lst (a : Addr) | str (x : Str)
def Srk.v : Srk → V
  | .tup a => .ref a
  | .lst a => .ref a
  | .str x => .str x
def its (H : Hp) : Srk → Option (List V)
  | .tup a => match H a with | some (.tup vs) => some vs | _ => none
  | .lst a => match H a with | some (.lst vs) => some vs | some (.frz _ (.lst vs)) => some vs | _ => none
  | .str x => some (signsV x)
def own (it : Addr) (t : Tok) : Srk → Nat → Heap → Prop
  | .tup a, i, h => h.IsTupleIter it a i
  | .lst a, i, h => h.IsListIter it a i
  | .str x, i, h => h.IsStrIter it (strIterType x) x t i
def iob (t : Tok) : Srk → Obj
  | .tup a => { cls := .type "tuple_iterator", data := .fields #[.ref a, .int 0 0] }
  | .lst a => { cls := .type "list_iterator", data := .fields #[.ref a, .int 0 0] }
  | .str x => { cls := .type (strIterType x), data := .fields #[.str x t, .int 0 0] }
def val (t : Tok) : Srk → Value
  | .tup a => .ref a
  | .lst a => .ref a
  | .str x => .str x t
def cont (h : Heap) : Srk → List Value → Prop
  | .tup a, us => h.IsTuple a us.toArray
  | .lst a, us => h.IsList a us.toArray
  | .str x, us => True
theorem own0 {it : Addr} {t : Tok} {k : Srk} {h : Heap} (e : h.get? it = some (iob t k)) : own it t k 0 h := by
  cases k with
  | tup a => exact ⟨_, e, rfl, rfl⟩
  | lst a => exact ⟨_, e, rfl, rfl⟩
  | str x => exact ⟨_, e, rfl, rfl⟩
theorem own_obj {it : Addr} {t : Tok} {k : Srk} {i : Nat} {h : Heap} (o : own it t k i h) : ∃ ob, h.get? it = some ob ∧ ∀ v, ob.data ≠ .cell v := by
  cases k with
  | tup a => obtain ⟨ob, e, _, d⟩ := o; exact ⟨ob, e, fun v z => by rw [d] at z; cases z⟩
  | lst a => obtain ⟨ob, e, _, d⟩ := o; exact ⟨ob, e, fun v z => by rw [d] at z; cases z⟩
  | str x => obtain ⟨ob, e, _, d⟩ := o; exact ⟨ob, e, fun v z => by rw [d] at z; cases z⟩
theorem own_keep {it : Addr} {t : Tok} {k : Srk} {i : Nat} {h h' : Heap} (o : own it t k i h) (kk : ∀ ob, h.get? it = some ob → h'.get? it = some ob) : own it t k i h' := by
  cases k with
  | tup a => obtain ⟨ob, e, r⟩ := o; exact ⟨ob, kk _ e, r⟩
  | lst a => obtain ⟨ob, e, r⟩ := o; exact ⟨ob, kk _ e, r⟩
  | str x => obtain ⟨ob, e, r⟩ := o; exact ⟨ob, kk _ e, r⟩
section
variable {P : Program} {w : World} {H : Hp} {s : Shared}
theorem cont_of {X : Cx} {pins : List (Addr × Obj)} {σ : St} (I : Inv X pins σ H s) {k : Srk} {xs : List V} (e : its H k = some xs) : ∃ us, cont s.heap k us ∧ ((∀ x, k ≠ .str x) → Vals xs us) := by
  cases k with
  | tup a =>
    cases q : H a with
    | none => simp [its, q] at e
    | some o =>
      cases o with
      | tup vs =>
        simp [its, q] at e; subst e
        obtain ⟨us, r, t, _⟩ := I.tuple (SqT.of q)
        exact ⟨us, t, fun _ => r⟩
      | _ => simp [its, q] at e
  | lst a =>
    cases q : H a with
    | none => simp [its, q] at e
    | some o =>
      cases o with
      | lst vs =>
        simp [its, q] at e; subst e
        obtain ⟨us, r, t, _⟩ := I.list (SqL.of q)
        exact ⟨us, t.isList, fun _ => r⟩
      | frz ob u =>
        cases u with
        | lst vs =>
          simp [its, q] at e; subst e
          obtain ⟨us, r, t, _⟩ := I.list (.inl (.inr ⟨_, q⟩))
          exact ⟨us, t.isList, fun _ => r⟩
        | _ => simp [its, q] at e
      | _ => simp [its, q] at e
  | str x => exact ⟨[], True.intro, fun n => absurd rfl (n x)⟩
theorem draw_of {X : Cx} {pins : List (Addr × Obj)} {σ : St} (I : Inv X pins σ H s) {k : Srk} {xs : List V} {it : Addr} {t : Tok} (e : its H k = some xs) (hn : H it = none) :
    ∃ (cs : List Addr) (P1 : Nat → Value → Prop) (S1 : Nat → Heap → Prop), (∀ A : Around, A.handled = none → Draws X.prog X.w A it (it :: cs) xs.length P1 S1) ∧ (∀ i, own it t k i s.heap → S1 i s.heap) ∧ (∀ i h, S1 i h → own it t k i h) ∧ (∀ c ∈ cs, H c ≠ none) ∧
      ∀ i v, P1 i v → ∃ x, xs[i]? = some x ∧ RelV x v := by
  cases k with
  | tup a =>
    obtain ⟨us, c, r⟩ := cont_of I e
    have r := r (by intro x z; cases z)
    have ha : H a ≠ none := fun z => by simp [its, z] at e
    have l : us.toArray.size = xs.length := by rw [List.size_toArray, r.length]
    refine ⟨[a], fun i v => us.toArray[i]? = some v, fun i h => h.IsTupleIter it a i ∧ h.IsTuple a us.toArray, fun A hA => ?_, fun i o => ⟨o, c⟩, fun i h z => z.1, fun c hc => by rw [List.mem_singleton.mp hc]; exact ha, fun i v z => ?_⟩
    · have := draws_tup (prog := X.prog) (w := X.w) hA it a (fun y => ha (y ▸ hn)) us.toArray
      rw [l] at this; exact this
    · have z' : us[i]? = some v := by simpa using z
      have hi : i < xs.length := by rw [r.length]; exact (List.getElem?_eq_some_iff.mp z').1
      obtain ⟨u, e1, e2⟩ := r.get (List.getElem?_eq_getElem hi)
      rw [z'] at e1; cases e1
      exact ⟨_, List.getElem?_eq_getElem hi, e2⟩
  | lst a =>
    obtain ⟨us, c, r⟩ := cont_of I e
    have r := r (by intro x z; cases z)
    have ha : H a ≠ none := fun z => by simp [its, z] at e
    have l : us.toArray.size = xs.length := by rw [List.size_toArray, r.length]
    refine ⟨[a], fun i v => us.toArray[i]? = some v, fun i h => h.IsListIter it a i ∧ h.IsList a us.toArray, fun A hA => ?_, fun i o => ⟨o, c⟩, fun i h z => z.1, fun c hc => by rw [List.mem_singleton.mp hc]; exact ha, fun i v z => ?_⟩
    · have := Draws.list (prog := X.prog) (w := X.w) hA it a (fun y => ha (y ▸ hn)) us.toArray
      rw [l] at this; exact this
    · have z' : us[i]? = some v := by simpa using z
      have hi : i < xs.length := by rw [r.length]; exact (List.getElem?_eq_some_iff.mp z').1
      obtain ⟨u, e1, e2⟩ := r.get (List.getElem?_eq_getElem hi)
      rw [z'] at e1; cases e1
      exact ⟨_, List.getElem?_eq_getElem hi, e2⟩
  | str x =>
    cases e
    have l : (signsV x).length = x.cps.size := by simp [signsV]
    refine ⟨[], fun i v => ∃ c u, x.cps[i]? = some c ∧ v = .str ⟨#[c]⟩ u, fun i h => h.IsStrIter it (strIterType x) x t i, fun A hA => ?_, fun i o => o, fun i h z => z, fun c hc => (by cases hc), fun i v z => ?_⟩
    · rw [l]
      cases ha : x.cps.all (· < 128)
      · have := Draws.strWide (prog := X.prog) (w := X.w) hA it x t
        simpa [strIterType, ha] using this
      · have := Draws.strAscii (prog := X.prog) (w := X.w) hA it x t
        simpa [strIterType, ha] using this
    · obtain ⟨c, u, e1, rfl⟩ := z
      exact ⟨.str ⟨#[c]⟩, by simp [signsV, e1], ⟨_, rfl⟩⟩
end
theorem turnedL {X : Cx} {pins : List (Addr × Obj)} {σ : St} {H : Hp} {s : Shared} {h' : Heap} {t' : Nat} {ch : List Addr} (I : Inv X pins σ H s) (hf : ∀ b ∈ ch, FpOk X pins H b) (k : ∀ b o, b ∉ ch → s.heap.get? b = some o → h'.get? b = some o) :
    Inv X pins σ H { s with heap := h', toks := t' } := by
  have nit : ∀ b u, H b = some u → b ∉ ch := fun b u e z => by rw [(hf b z).1] at e; cases e
  refine I.step (g' := s.gens) (d' := s.drawn) (ch := ch) (fun b hb => ?_) (fun b o _ _ hc e _ => k b o hc e) (fun b o _ _ hc e _ => ⟨o.slots, k b o hc e⟩) (fun _ _ _ _ n => n) (fun b o hc e => ⟨o, k b o hc e⟩) (fun _ _ e => e) (fun _ _ _ e => e)
    (fun b ps e => ⟨#[], by rw [e]; simp⟩) (fun m hm => ?_) (fun b u e => ?_) I.bare
  · obtain ⟨_, f1, _, f3, f4, f5⟩ := hf b hb
    exact ⟨f3, f1, f4, f5⟩
  · obtain ⟨o, es, ep, ho, r⟩ := hm
    exact ⟨o, es, ep, k _ o (fun z => (hf _ z).2.1 rfl) ho, r⟩
  · refine (I.hok b u e).stay (fun c v hc q => k c v ?_ q) (fun _ q => q) fun _ _ q => q
    rcases hc with z | z
    · rw [z]; exact nit b u e
    · exact nit c _ z
end ZP
set_option Elab.async false
set_option linter.all false
set_option maxRecDepth 100000
set_option maxHeartbeats 4000000
namespace ZP
open PySem PySem.Spec PySem.Builtin PySem.Builtin.SmallTypes L2
theorem iter_src {prog : Program} {w : World} {A : Around} {E : Value → Shared → Prop} {s : Shared} {k : Srk} {t : Tok} {us : List Value} {Q : Value → Shared → Prop} (c : cont s.heap k us) (q : Q (.ref s.heap.objs.size) { s with heap := s.heap.push (iob t k) }) :
    wpAny (model prog w) A (pyIter (val t k)) Q E s := by
  cases k with
  | tup a => exact wpAny_pyIter_tuple c q
  | lst a => exact wpAny_pyIter_list c q
  | str x => exact wpAny_pyIter_strU q
section
variable {X : Cx} {elts : List Expr} {x1 : Nat} {tpos : Pos}
theorem val_of {k : Srk} {u : Value} (r : RelV k.v u) : ∃ t, u = val t k := by
  cases k with
  | tup a => cases r; exact ⟨0, rfl⟩
  | lst a => cases r; exact ⟨0, rfl⟩
  | str x => obtain ⟨t, rfl⟩ := r; exact ⟨t, rfl⟩
end
end ZP
namespace MI
open PySem PySem.Spec L2 ZP
def srcOf (d : D) (h : Hd) : Option (List D × (Hd → Prop)) := match d with
  | .tup xs => some (xs, fun _ => True)
  | .rol xs => some (xs, fun _ => True)
  | .str x => some (signsD x, fun _ => True)
  | .ref i => (match h[i]? with | some (.lst xs) => some (xs, fun h => h[i]? = some (.lst xs)) | _ => none)
  | _ => none
def gZip (x y : D) (h : Hd) : R Itm := match srcOf x h, srcOf y h with
  | some (xs, c1), some (ys, c2) => .ok ⟨(xs.zip ys).map fun p => .tup [p.1, p.2], fun h => c1 h ∧ c2 h⟩ h
  | _, _ => .no
def sZip (f g : SE) : SI := fun τ h => (f τ h).bind fun x h1 => (g τ h1).bind fun y h2 => gZip x y h2
theorem src_ok {K : PySem.W.Frag} {ι : List Addr} {H : Hp} {h : Hd} {v : V} {d : D} {xs : List D} {ck : Hd → Prop} (r : Rep K ι H v d) (hr : HRep K ι H h) (e : srcOf d h = some (xs, ck)) :
    ∃ k : Srk, v = k.v ∧ ck h ∧ ∀ ι' H' h', Gr ι H ι' H' → HRep K ι' H' h' → ck h' → ∃ vs, its H' k = some vs ∧ Reps K ι' H' vs xs := by
  cases r with
  | @tup a vs ys ha rs =>
    cases e
    exact ⟨.tup a, rfl, True.intro, fun ι' H' h' g _ _ => ⟨vs, by simp [its, g.tup _ _ ha], rs.mono g⟩⟩
  | @rol a vs ys ha rs =>
    cases e
    refine ⟨.lst a, rfl, True.intro, fun ι' H' h' g _ _ => ⟨vs, ?_, rs.mono g⟩⟩
    obtain ⟨o, q⟩ := ha.mono g
    simp [its, q]
  | str x =>
    cases e
    exact ⟨.str x, rfl, True.intro, fun ι' H' h' g _ _ => ⟨_, rfl, reps_signs x⟩⟩
  | @ref a i ha =>
    obtain ⟨ob, e1, e2⟩ := hr.at ha
    cases ob with
    | lst zs =>
      simp only [srcOf, e1] at e
      cases e
      refine ⟨.lst a, rfl, e1, fun ι' H' h' g hr' c => ?_⟩
      obtain ⟨us, q1, q2⟩ := hr'.obj i a _ (g.at ha) c
      exact ⟨us, by simp [its, q1], q2⟩
    | dK _ => simp only [srcOf, e1] at e; cases e
    | dT _ => simp only [srcOf, e1] at e; cases e
  | _ => cases e
end MI
set_option Elab.async false
set_option linter.all false
set_option maxRecDepth 100000
set_option maxHeartbeats 4000000
namespace MI
open PySem PySem.Spec L2
section
variable {P : Program} {w : World} {K : PySem.W.Frag} {mg : Str → Option Value} {base : Heap}
end
end MI
set_option Elab.async false
set_option linter.all false
set_option maxRecDepth 100000
set_option maxHeartbeats 4000000
namespace MI
open PySem PySem.Spec L2
def FrzOf (L : List Addr) (H H2 : Hp) : Prop := ∀ a, (a ∉ L → H2 a = H a) ∧ (a ∈ L → ∃ o u, H a = some u ∧ H2 a = some (.frz o u))
def Able (H : Hp) (L : List Addr) : Prop := ∀ a ∈ L, (∃ xs, H a = some (.lst xs)) ∨ (∃ kvs, H a = some (.dK kvs)) ∨ ∃ kvs, H a = some (.dT kvs)
def still : HO → Prop
  | .lst _ => False | .dK _ => False | .dT _ => False
  | _ => True
theorem FrzOf.still {L : List Addr} {H H2 : Hp} (f : FrzOf L H H2) (ab : Able H L) {a : Addr} {u : HO} (e : H a = some u) (st : MI.still u) : H2 a = some u := by
  rw [(f a).1 fun z => ?_]
  · exact e
  · rcases ab a z with ⟨_, q⟩ | ⟨_, q⟩ | ⟨_, q⟩ <;> (rw [e] at q; cases q; exact st)
theorem Inv.frz {X : Cx} {pins : List (Addr × Obj)} {σ : St} {H : Hp} {s : Shared} {L : List Addr} (I : Inv X pins σ H s) (ab : Able H L) : ∃ H2, FrzOf L H H2 ∧ Inv X pins σ H2 s := by
  have obj : ∀ a ∈ L, ∀ u, H a = some u → ∃ o, s.heap.get? a = some o := fun a ha u e => by
    rcases ab a ha with ⟨_, q⟩ | ⟨_, q⟩ | ⟨_, q⟩
    · obtain ⟨_, _, _, _, z⟩ := I.hok a _ q; exact ⟨_, z⟩
    · obtain ⟨_, _, _, _, z⟩ := I.hok a _ q
      obtain ⟨o, _, _, z, _⟩ := z
      exact ⟨o, z⟩
    · obtain ⟨_, _, _, _, o, _, _, z, _⟩ := I.hok a _ q; exact ⟨o, z⟩
  let H2 : Hp := fun a => if a ∈ L then (match s.heap.get? a, H a with | some o, some u => some (.frz o u) | _, w => w) else H a
  have f : FrzOf L H H2 := fun a => ⟨fun h => by simp [H2, h], fun h => by
    obtain ⟨u, e⟩ : ∃ u, H a = some u := by
      rcases ab a h with ⟨_, q⟩ | ⟨_, q⟩ | ⟨_, q⟩ <;> exact ⟨_, q⟩
    obtain ⟨o, eo⟩ := obj a h u e
    exact ⟨o, u, e, by simp [H2, h, e, eo]⟩⟩
  refine ⟨H2, f, ?_⟩
  have mv : ∀ a u, ObjOk X.prog X.w H s.heap a u → ObjOk X.prog X.w H2 s.heap a u := fun a u x => x.stay (fun b v _ q => q) (fun c q => f.still ab q True.intro) fun c xs q => f.still ab q True.intro
  have ok : HOk X.prog X.w H2 s.heap := fun a u e => by
    by_cases hl : a ∈ L
    · obtain ⟨u0, e0⟩ : ∃ u, H a = some u := by
        rcases ab a hl with ⟨_, q⟩ | ⟨_, q⟩ | ⟨_, q⟩ <;> exact ⟨_, q⟩
      obtain ⟨o, eo⟩ := obj a hl u0 e0
      have e' : H2 a = some (.frz o u0) := by simp [H2, hl, e0, eo]
      rw [e'] at e
      cases e
      exact ⟨eo, mv a u0 (I.hok a u0 e0)⟩
    · rw [(f a).1 hl] at e
      exact mv a u (I.hok a u e)
  have fn : ∀ b, H b = none → H2 b = none := fun b n => by
    rw [(f b).1 fun z => ?_]
    · exact n
    · rcases ab b z with ⟨_, q⟩ | ⟨_, q⟩ | ⟨_, q⟩ <;> (rw [n] at q; cases q)
  have un : Un X.fs [] H H2 s.heap s.heap := ⟨fun b o q _ _ _ => q, fun b o q _ _ _ => ⟨o.slots, q⟩, fun b o _ n _ => fn b n, fun b o q _ => ⟨o, q⟩, fun b xs q => f.still ab q True.intro, fun b o u q => f.still ab q True.intro, fun b ps q => ⟨#[], by rw [f.still ab q True.intro]; simp⟩⟩
  exact I.un (t' := s.toks) un ok
theorem pe_frz {X : Cx} {e : Expr} {t : TE} (h : PE X e t) : PE X e (fun σ H Q => t σ H fun v H1 => ∃ L, Able H1 L ∧ ∀ H2, FrzOf L H1 H2 → Q v H2) := fun pins s σ H Q I q =>
  thn (h pins s σ H _ I q) fun u s' ⟨v, H1, I1, r, L, ab, k⟩ => let ⟨H2, f, I2⟩ := Inv.frz I1 ab; ⟨v, H2, I2, r, k H2 f⟩
def optL {α β : Type} (f : α → Option β) : List α → Option (List β)
  | [] => some []
  | x :: xs => match f x, optL f xs with | some y, some ys => some (y :: ys) | _, _ => none
open Classical in
noncomputable def frzD (n : Nat) (h : Hd) : Nat → D → Option D
  | 0, _ => none
  | k + 1, d => if clo n d then some d else match d with
    | .tup xs => (optL (frzD n h k) xs).map .tup
    | .rol xs => (optL (frzD n h k) xs).map .rol
    | .scr xs => (optL (frzD n h k) xs).map .scr
    | .rod ks xs => (optL (frzD n h k) xs).map (.rod ks)
    | .rdT ks xs => (optL (frzD n h k) xs).map (.rdT ks)
    | .ref i => match h[i]? with
      | some (.lst xs) => (optL (frzD n h k) xs).map .rol
      | some (.dK kvs) => (optL (frzD n h k) (kvs.map (·.2))).map (.rod (kvs.map (·.1)))
      | some (.dT kvs) => (optL (frzD n h k) (kvs.map (·.2))).map (.rdT (kvs.map (·.1)))
      | none => none
    | _ => none
open Classical in
noncomputable def frzO (n : Nat) (h : Hd) (k : Nat) (o : O) : Option O := if cloO n o then some o else match o with
  | .lst xs => (optL (frzD n h k) xs).map .lst
  | .dK kvs => (optL (frzD n h k) (kvs.map (·.2))).map fun ys => .dK ((kvs.map (·.1)).zip ys)
  | .dT kvs => (optL (frzD n h k) (kvs.map (·.2))).map fun ys => .dT ((kvs.map (·.1)).zip ys)
abbrev FU : Nat := 20
noncomputable def frzR (n : Nat) : R D → R D
  | .ok d h1 => match frzD n h1 FU d, optL (frzO n h1 FU) (h1.take n) with | some d', some g => .ok d' g | _, _ => .no
  | _ => .no
open Classical in
noncomputable def frzM (n : Nat) : R D → R D
  | .ok (.ref i) h1 => (match h1[i]? with
      | some o => if n ≤ i ∧ cloO n o ∧ ∀ u ∈ h1.take n, cloO n u then .ok (.ref n) (h1.take n ++ [o]) else .no
      | none => .no)
  | _ => .no
section
variable {K : PySem.W.Frag} {ι ι' : List Addr} {H H' H2 : Hp} {h1 : Hd} {n : Nat} {L : List Addr}
theorem gw_frz (f : FrzOf L H' H2) (ab : Able H' L) (κ : List Addr) : Gw κ H' κ H2 := ⟨⟨[], by simp⟩, fun a vs e => f.still ab e True.intro, fun a o u e => f.still ab e True.intro⟩
theorem optL_reps {K : PySem.W.Frag} {ι κ : List Addr} {H H2 : Hp} {f : D → Option D} (ih : ∀ {v d d'}, Rep K ι H v d → f d = some d' → Rep K κ H2 v d') : ∀ {vs : List V} {ds ds' : List D}, Reps K ι H vs ds → optL f ds = some ds' → Reps K κ H2 vs ds'
  | _, _, _, .nil, e => by cases e; exact .nil
  | _, x :: xs, _, .cons r rs, e => by
    unfold optL at e
    split at e
    · rename_i y ys h1 h2
      cases e
      exact .cons (ih r h1) (optL_reps ih rs h2)
    · cases e
theorem frz_rep (hr : HRep K ι' H' h1) (hL : ∀ (i : Nat) a, ι'[i]? = some a → n ≤ i → a ∈ L) (f : FrzOf L H' H2) (ab : Able H' L) : ∀ (k : Nat) {v : V} {d d' : D}, Rep K ι' H' v d → frzD n h1 k d = some d' → Rep K (ι'.take n) H2 v d' := by
  intro k
  induction k with
  | zero => intro v d d' r e; cases e
  | succ k ih =>
    intro v d d' r e
    unfold frzD at e
    split at e
    · rename_i c
      cases e
      exact (r.cut c).monoW (gw_frz f ab _)
    · rename_i c
      cases r with
      | tup h rs =>
        simp only [Option.map_eq_some_iff] at e
        obtain ⟨ys, e1, rfl⟩ := e
        exact .tup (f.still ab h True.intro) (optL_reps (fun r e => ih r e) rs e1)
      | rol h rs =>
        simp only [Option.map_eq_some_iff] at e
        obtain ⟨ys, e1, rfl⟩ := e
        exact .rol (h.monoW (gw_frz f ab ι')) (optL_reps (fun r e => ih r e) rs e1)
      | scr h rs =>
        simp only [Option.map_eq_some_iff] at e
        obtain ⟨ys, e1, rfl⟩ := e
        exact .scr (h.monoW (gw_frz f ab ι')) (optL_reps (fun r e => ih r e) rs e1)
      | rod h ek rs =>
        simp only [Option.map_eq_some_iff] at e
        obtain ⟨ys, e1, rfl⟩ := e
        exact .rod (f.still ab h True.intro) ek (optL_reps (fun r e => ih r e) rs e1)
      | rdT h ek rs =>
        simp only [Option.map_eq_some_iff] at e
        obtain ⟨ys, e1, rfl⟩ := e
        exact .rdT (f.still ab h True.intro) ek (optL_reps (fun r e => ih r e) rs e1)
      | @ref a i ha =>
        have hi : n ≤ i := by
          simp only [clo] at c
          omega
        obtain ⟨o, u, e1, e2⟩ := (f a).2 (hL i a ha hi)
        obtain ⟨ob, h3, h4⟩ := hr.at ha
        simp only [h3] at e
        cases ob with
        | lst xs =>
          simp only [Option.map_eq_some_iff] at e
          obtain ⟨ys, e3, rfl⟩ := e
          obtain ⟨vs, h5, h6⟩ := h4
          rw [e1] at h5; cases h5
          exact .rol ⟨o, e2⟩ (optL_reps (fun r e => ih r e) h6 e3)
        | dK kvs =>
          simp only [Option.map_eq_some_iff] at e
          obtain ⟨ys, e3, rfl⟩ := e
          obtain ⟨us, h5, h6, h7⟩ := h4
          rw [e1] at h5; cases h5
          exact .rod e2 h6 (optL_reps (fun r e => ih r e) h7 e3)
        | dT kvs =>
          simp only [Option.map_eq_some_iff] at e
          obtain ⟨ys, e3, rfl⟩ := e
          obtain ⟨us, h5, h6, h7⟩ := h4
          rw [e1] at h5; cases h5
          exact .rdT e2 h6 (optL_reps (fun r e => ih r e) h7 e3)
      | non => simp only [clo, not_true_eq_false] at c
      | exc _ _ _ => simp only [clo, not_true_eq_false] at c
      | bl b => simp only [clo, not_true_eq_false] at c
      | int b => simp only [clo, not_true_eq_false] at c
      | str b => simp only [clo, not_true_eq_false] at c
      | ty b => simp only [clo, not_true_eq_false] at c
theorem krep_zip {κ : Type} {H : Hp} {us : List (κ × V)} {ks : List κ} {ys : List D} (e : us.map (·.1) = ks) (r : Reps K ι H (us.map (·.2)) ys) : KRep K ι H us (ks.zip ys) := by
  have l : ks.length = ys.length := by rw [← e, List.length_map, ← r.len, List.length_map]
  refine ⟨?_, ?_⟩
  · rw [List.map_fst_zip (by omega)]; exact e
  · rw [List.map_snd_zip (by omega)]; exact r
theorem frz_obj (hr : HRep K ι' H' h1) (hL : ∀ (i : Nat) a, ι'[i]? = some a → n ≤ i → a ∈ L) (f : FrzOf L H' H2) (ab : Able H' L) {k : Nat} {a : Addr} {o o' : O} (na : a ∉ L) (r : ORep K ι' H' a o) (e : frzO n h1 k o = some o') : ORep K (ι'.take n) H2 a o' := by
  have same : H2 a = H' a := (f a).1 na
  unfold frzO at e
  split at e
  · rename_i c
    cases e
    exact (r.cut c).monoW (gw_frz f ab _) same
  · cases o with
    | lst xs =>
      simp only [Option.map_eq_some_iff] at e
      obtain ⟨ys, e1, rfl⟩ := e
      obtain ⟨vs, h3, h4⟩ := r
      exact ⟨vs, by rw [same]; exact h3, optL_reps (fun r e => frz_rep hr hL f ab k r e) h4 e1⟩
    | dK kvs =>
      simp only [Option.map_eq_some_iff] at e
      obtain ⟨ys, e1, rfl⟩ := e
      obtain ⟨us, h3, h4, h5⟩ := r
      exact ⟨us, by rw [same]; exact h3, krep_zip h4 (optL_reps (fun r e => frz_rep hr hL f ab k r e) h5 e1)⟩
    | dT kvs =>
      simp only [Option.map_eq_some_iff] at e
      obtain ⟨ys, e1, rfl⟩ := e
      obtain ⟨us, h3, h4, h5⟩ := r
      exact ⟨us, by rw [same]; exact h3, krep_zip h4 (optL_reps (fun r e => frz_rep hr hL f ab k r e) h5 e1)⟩
theorem optL_get {α β : Type} {f : α → Option β} : ∀ {xs : List α} {ys : List β}, optL f xs = some ys → xs.length = ys.length ∧ ∀ (i : Nat) y, ys[i]? = some y → ∃ x, xs[i]? = some x ∧ f x = some y
  | [], _, e => by cases e; exact ⟨rfl, fun i y e => by simp at e⟩
  | x :: xs, ys, e => by
    unfold optL at e
    split at e
    · rename_i y ys h1 h2
      cases e
      obtain ⟨l, g⟩ := optL_get h2
      refine ⟨by simp [l], fun i z e => ?_⟩
      cases i with
      | zero => simp at e; subst e; exact ⟨x, rfl, h1⟩
      | succ i => simpa using g i z (by simpa using e)
    · cases e
theorem able_drop (hr : HRep K ι' H' h1) (M : List Addr) (hM : ∀ a ∈ M, a ∈ ι') : Able H' M := fun a ha => by
  obtain ⟨i, hi⟩ := List.getElem?_of_mem (hM a ha)
  obtain ⟨o, _, q⟩ := hr.at hi
  cases o with
  | lst xs => obtain ⟨vs, h, _⟩ := q; exact .inl ⟨_, h⟩
  | dK xs => obtain ⟨vs, h, _⟩ := q; exact .inr (.inl ⟨_, h⟩)
  | dT xs => obtain ⟨vs, h, _⟩ := q; exact .inr (.inr ⟨_, h⟩)
theorem nodup_ix2 {α : Type} {l : List α} (nd : l.Nodup) {i j : Nat} {a : α} (h1 : l[i]? = some a) (h2 : l[j]? = some a) : i = j := by
  obtain ⟨l1, e1⟩ := List.getElem?_eq_some_iff.mp h1
  obtain ⟨l2, e2⟩ := List.getElem?_eq_some_iff.mp h2
  rcases Nat.lt_trichotomy i j with l | l | l
  · exact absurd (e1.trans e2.symm) (List.pairwise_iff_getElem.mp nd i j l1 l2 l)
  · exact l
  · exact absurd (e2.trans e1.symm) (List.pairwise_iff_getElem.mp nd j i l2 l1 l)
theorem gr_frz (g : Gr ι H ι' H') (f : FrzOf L H' H2) (ab : Able H' L) (hL : ∀ a ∈ L, H a = none) {m : List Addr} (hm : ∀ a ∈ m, H a = none) : Gr ι H (ι ++ m) H2 := by
  refine ⟨⟨m, rfl, hm⟩, fun a vs e => f.still ab (g.tup a vs e) True.intro, fun a o u e => f.still ab (g.frz a o u e) True.intro, fun a u e hn => ?_, fun a u e => ?_⟩
  · rw [(f a).1 fun z => by rw [hL a z] at e; cases e]
    exact g.oth a u e hn
  · obtain ⟨u', e'⟩ := g.kp a u e
    rw [(f a).1 fun z => by rw [hL a z] at e; cases e]
    exact ⟨u', e'⟩
theorem frz_end {d d' : D} {v : V} {g' : Hd} (g : Gr ι H ι' H') (rb : Rep K ι' H' v d) (hr : HRep K ι' H' h1) (e : frzR ι.length (.ok d h1) = .ok d' g') :
    ∃ L, Able H' L ∧ ∀ H2, FrzOf L H' H2 → Gr ι H ι H2 ∧ Rep K ι H2 v d' ∧ HRep K ι H2 g' := by
  obtain ⟨m, rfl, hm⟩ := g.pre
  have tk : (ι ++ m).take ι.length = ι := by simp
  have ab : Able H' m := able_drop hr m fun a ha => List.mem_append_right _ ha
  have hL : ∀ (i : Nat) a, (ι ++ m)[i]? = some a → ι.length ≤ i → a ∈ m := fun i a e hi => by
    rw [List.getElem?_append_right hi] at e
    exact List.mem_of_getElem? e
  refine ⟨m, ab, fun H2 f => ?_⟩
  unfold frzR at e
  simp only at e
  split at e
  · rename_i dd gg e1 e2
    cases e
    refine ⟨by simpa using gr_frz g f ab hm (m := []) (by simp), by have := frz_rep hr hL f ab FU rb e1; rwa [tk] at this, ?_⟩
    obtain ⟨l, gt⟩ := optL_get e2
    have hl := hr.len
    have ln : ι.length ≤ h1.length := by rw [← hl]; simp
    refine ⟨(List.nodup_append.mp hr.nd).1, by rw [← l, List.length_take]; omega, fun i a o q1 q2 => ?_⟩
    obtain ⟨x, hx, fx⟩ := gt i o q2
    have hi : i < ι.length := (List.getElem?_eq_some_iff.mp q1).1
    rw [List.getElem?_take, if_pos hi] at hx
    have q3 : (ι ++ m)[i]? = some a := by rw [List.getElem?_append_left hi]; exact q1
    have na : a ∉ m := fun z => (List.nodup_append.mp hr.nd).2.2 a (List.mem_of_getElem? q1) a z rfl
    have := frz_obj hr hL f ab na (hr.obj i a x q3 hx) fx
    rwa [tk] at this
  · cases e
theorem frz_endM {d d' : D} {v : V} {g' : Hd} (g : Gr ι H ι' H') (rb : Rep K ι' H' v d) (hr : HRep K ι' H' h1) (e : frzM ι.length (.ok d h1) = .ok d' g') :
    ∃ b, H b = none ∧ Gr ι H (ι ++ [b]) H' ∧ Rep K (ι ++ [b]) H' v d' ∧ HRep K (ι ++ [b]) H' g' := by
  obtain ⟨m, rfl, hm⟩ := g.pre
  have tk : (ι ++ m).take ι.length = ι := by simp
  have up : ∀ b, Gw ι H' (ι ++ [b]) H' := fun b => ⟨⟨[b], rfl⟩, fun _ _ h => h, fun _ _ _ h => h⟩
  cases rb with
  | @ref b i hb =>
    unfold frzM at e
    simp only at e
    split at e
    · rename_i ob ho
      split at e
      · rename_i hc
        obtain ⟨hi, c1, c2⟩ := hc
        cases e
        have hb' := hb
        rw [List.getElem?_append_right hi] at hb'
        have bm : b ∈ m := List.mem_of_getElem? hb'
        obtain ⟨nd1, nd2, nd3⟩ := List.nodup_append.mp hr.nd
        have hl := hr.len
        have ln : ι.length ≤ h1.length := by rw [← hl]; simp
        have lt : (h1.take ι.length).length = ι.length := by rw [List.length_take]; omega
        refine ⟨b, hm b bm, ⟨⟨[b], rfl, by simpa using hm b bm⟩, g.tup, g.frz, g.oth, g.kp⟩, .ref (by simp), ?_⟩
        refine ⟨List.nodup_append.mpr ⟨nd1, by simp, fun a ha c hc z => nd3 a ha c (by rw [List.mem_singleton.mp hc]; exact bm) z⟩, by simp [lt], fun j a o q1 q2 => ?_⟩
        by_cases hj : j < ι.length
        · rw [List.getElem?_append_left hj] at q1
          rw [List.getElem?_append_left (by omega)] at q2
          have q2' := q2
          rw [List.getElem?_take, if_pos hj] at q2'
          have := (hr.obj j a o (by rw [List.getElem?_append_left hj]; exact q1) q2').cut (c2 o (List.mem_of_getElem? q2))
          rw [tk] at this
          exact this.monoW (up b) rfl
        · have hj2 : j < (ι ++ [b]).length := (List.getElem?_eq_some_iff.mp q1).1
          have : j = ι.length := by simp at hj2; omega
          subst this
          rw [List.getElem?_append_right (Nat.le_refl _)] at q1
          rw [List.getElem?_append_right (by omega), lt] at q2
          simp at q1 q2
          subst q1 q2
          have := (hr.obj i b ob hb ho).cut c1
          rw [tk] at this
          exact this.monoW (up b) rfl
      · cases e
    · cases e
  | _ => cases e
end
noncomputable def sZ (f : SE) : SE := fun τ h => frzR h.length (f τ h)
abbrev frzQ (Q : VK) : VK := fun v H1 => ∃ L, Able H1 L ∧ ∀ H2, FrzOf L H1 H2 → Q v H2
theorem z_of {K : PySem.W.Frag} {E : XD} {fa : SE} {σ : St} {H : Hp} {Q : VK} (q : lift K E (repD K) (sZ fa) σ H Q) : lift K E (repD K) fa σ H (frzQ Q) := by
  obtain ⟨ι, τ, h, S, Rh, o⟩ := q
  refine ⟨ι, τ, h, S, Rh, ?_⟩
  unfold sZ at o
  rw [← Rh.len] at o
  cases hf : fa τ h with
  | ok d h1 =>
    rw [hf] at o
    intro ι' H' v g r hr
    cases hz : frzR ι.length (.ok d h1) with
    | ok d' g' =>
      rw [hz] at o
      obtain ⟨L, ab, k⟩ := frz_end g r hr hz
      refine ⟨L, ab, fun H2 f => ?_⟩
      obtain ⟨k1, k2, k3⟩ := k H2 f
      exact o ι H2 v k1 k2 k3
    | ex c hx => unfold frzR at hz; simp only at hz; split at hz <;> cases hz
    | no => rw [hz] at o; exact o.elim
  | ex c h1 => rw [hf] at o; exact o.elim
  | no => rw [hf] at o; exact o.elim
theorem me_z {X : Cx} {E : XD} {e : Expr} {fa : SE} (ha : ME X E e fa) : ME X E e (sZ fa) := PE.weak (pe_frz ha) fun σ H Q q => z_of q
def refOf : D → Option Nat
  | .ref i => some i
  | _ => none
def pinsD (ds : List D) : List Nat := ds.filterMap refOf
def renum : Nat → List D → List D
  | _, [] => []
  | k, d :: ds => match d with
    | .ref _ => .ref k :: renum (k + 1) ds
    | d => d :: renum k ds
def setAll : Hd → List Nat → List O → Hd
  | h, i :: is, o :: os => setAll (h.set i o) is os
  | h, _, _ => h
def isRef (d : D) : Prop := ∃ i, d = .ref i
open Classical in
noncomputable def locR (m : Bool) (F : SF) (ds : List D) (h : Hd) : R D := match optL (fun i => h[i]?) (pinsD ds) with
  | none => .no
  | some os => if (pinsD ds).Nodup ∧ (∀ d ∈ ds, clo 0 d ∨ isRef d) ∧ (∀ o ∈ os, cloO 0 o) then
      (match (if m then frzM os.length (F (renum 0 ds) os) else frzR os.length (F (renum 0 ds) os)) with
      | .ok d h1 => if ∀ o ∈ h1, cloO 0 o then
          (if m then .ok (.ref h.length) (setAll h (pinsD ds) h1 ++ h1.drop os.length)
           else if clo 0 d then .ok d (setAll h (pinsD ds) h1) else .no) else .no
      | _ => .no)
    else .no
noncomputable def sLoc (m : Bool) (n : Nat) (F : SF) : SF := fun ds h => if ds.length = n then locR m F ds h else .no
section
variable {K : PySem.W.Frag} {ι ι' : List Addr} {H H' H2 : Hp} {h h1 : Hd} {n : Nat}
theorem gw_nil (κ : List Addr) : Gw [] H κ H := ⟨⟨κ, rfl⟩, fun _ _ h => h, fun _ _ _ h => h⟩
theorem Rep.any {v : V} {d : D} (r : Rep K ι H v d) (c : MI.clo 0 d) (κ : List Addr) : Rep K κ H v d := by
  have := r.cut c
  rw [List.take_zero] at this
  exact this.monoW (gw_nil κ)
theorem ORep.any {a : Addr} {o : O} (r : ORep K ι H a o) (c : cloO 0 o) (κ : List Addr) : ORep K κ H a o := by
  have := r.cut c
  rw [List.take_zero] at this
  exact this.monoW (gw_nil κ) rfl
theorem optL_some {α : Type} (l : List α) : ∀ {is : List Nat}, (∀ i ∈ is, i < l.length) → ∃ ys, optL (fun i => l[i]?) is = some ys
  | [], _ => ⟨[], rfl⟩
  | i :: is, hi => by
    obtain ⟨ys, e⟩ := optL_some l (is := is) fun j hj => hi j (List.mem_cons_of_mem _ hj)
    have := hi i List.mem_cons_self
    exact ⟨l[i] :: ys, by unfold optL; rw [e, List.getElem?_eq_getElem this]⟩
theorem reps_renum : ∀ {ds : List D} {vs : List V} {pre κ : List Addr}, Reps K ι H vs ds → (∀ d ∈ ds, clo 0 d ∨ isRef d) → optL (fun i => ι[i]?) (pinsD ds) = some κ → Reps K (pre ++ κ) H vs (renum pre.length ds)
  | [], _, _, _, .nil, _, _ => .nil
  | d :: ds, _, pre, κ, .cons r rs, hc, e => by
    have hc' : ∀ d ∈ ds, clo 0 d ∨ isRef d := fun x hx => hc x (List.mem_cons_of_mem _ hx)
    by_cases hd : isRef d
    · obtain ⟨i, rfl⟩ := hd
      have e' : optL (fun i => ι[i]?) (i :: pinsD ds) = some κ := e
      unfold optL at e'
      split at e'
      · rename_i a κ' h1 h2
        cases e'
        cases r with
        | ref ha =>
          rw [ha] at h1; cases h1
          have := reps_renum (pre := pre ++ [a]) rs hc' h2
          simp only [List.append_assoc, List.singleton_append, List.length_append, List.length_singleton] at this
          refine .cons (.ref ?_) this
          rw [List.getElem?_append_right (Nat.le_refl _)]
          simp
      · cases e'
    · have c := (hc d List.mem_cons_self).resolve_right hd
      have e1 : pinsD (d :: ds) = pinsD ds := by
        unfold pinsD
        cases d <;> first | rfl | exact absurd ⟨_, rfl⟩ hd
      have e2 : renum pre.length (d :: ds) = d :: renum pre.length ds := by
        cases d <;> first | rfl | exact absurd ⟨_, rfl⟩ hd
      rw [e1] at e
      rw [e2]
      exact .cons (r.any c _) (reps_renum rs hc' e)
theorem setAll_len : ∀ {is : List Nat} {os : List O} {h : Hd}, (setAll h is os).length = h.length
  | [], _, _ => by simp [setAll]
  | _ :: _, [], _ => by simp [setAll]
  | i :: is, o :: os, h => by rw [setAll, setAll_len, List.length_set]
theorem setAll_out {i : Nat} : ∀ {is : List Nat} {os : List O} {h : Hd}, i ∉ is → (setAll h is os)[i]? = h[i]?
  | [], _, _, _ => by simp [setAll]
  | _ :: _, [], _, _ => by simp [setAll]
  | j :: is, o :: os, h, n => by
    rw [setAll, setAll_out fun z => n (List.mem_cons_of_mem _ z), List.getElem?_set_ne fun z => n (by rw [z]; exact List.mem_cons_self)]
theorem setAll_in {i : Nat} {o : O} : ∀ {is : List Nat} {os : List O} {h : Hd} {j : Nat}, is.Nodup → is[j]? = some i → os[j]? = some o → i < h.length → (setAll h is os)[i]? = some o
  | [], _, _, _, _, e, _, _ => by simp at e
  | _ :: _, [], _, _, _, _, e, _ => by simp at e
  | k :: is, o' :: os, h, j, nd, e1, e2, hl => by
    cases j with
    | zero =>
      simp at e1 e2
      subst e1 e2
      rw [setAll, setAll_out (List.nodup_cons.mp nd).1, List.getElem?_set_self hl]
    | succ j =>
      rw [setAll]
      exact setAll_in (j := j) (List.nodup_cons.mp nd).2 (by simpa using e1) (by simpa using e2) (by simpa using hl)
theorem nodup_getAll {α : Type} {l : List α} (nl : l.Nodup) {is : List Nat} {ys : List α} (e : optL (fun i => l[i]?) is = some ys) (ni : is.Nodup) : ys.Nodup := by
  obtain ⟨le, g⟩ := optL_get e
  refine List.pairwise_iff_getElem.mpr fun i j hi hj lt z => ?_
  obtain ⟨x, h1, h2⟩ := g i _ (List.getElem?_eq_getElem hi)
  obtain ⟨y, h3, h4⟩ := g j _ (List.getElem?_eq_getElem hj)
  rw [← z] at h4
  have := nodup_ix2 nl h2 h4
  subst this
  have := nodup_ix2 ni h1 h3
  omega
theorem loc_back {is : List Nat} {κ m : List Addr} {g : Hd} (hr : HRep K ι H h) (e1 : optL (fun i => ι[i]?) is = some κ) (nd : is.Nodup) (gr : Gr κ H (κ ++ m) H2) (hg : HRep K (κ ++ m) H2 g) (cg : ∀ o ∈ g, cloO 0 o) (hm : m.length ≤ 1) :
    Gr ι H (ι ++ m) H2 ∧ HRep K (ι ++ m) H2 (setAll h is g ++ g.drop κ.length) := by
  obtain ⟨l1, g1⟩ := optL_get e1
  have mn : ∀ a ∈ m, H a = none := by
    obtain ⟨m', e, hm'⟩ := gr.pre
    rw [List.append_cancel_left e]; exact hm'
  have sub : ∀ a ∈ κ, a ∈ ι := fun a ha => by
    obtain ⟨j, hj⟩ := List.getElem?_of_mem ha
    obtain ⟨i, _, q⟩ := g1 j a hj
    exact List.mem_of_getElem? q
  have some_of : ∀ a ∈ ι, ∃ u, H a = some u := fun a ha => by
    obtain ⟨i, hi⟩ := List.getElem?_of_mem ha
    obtain ⟨o, _, q⟩ := hr.at hi
    obtain ⟨u, q, _⟩ := q.some
    exact ⟨u, q⟩
  have G : Gr ι H (ι ++ m) H2 := ⟨⟨m, rfl, mn⟩, gr.tup, gr.frz, fun a u e n => gr.oth a u e fun z => n (sub a z), gr.kp⟩
  have lg := hg.len
  rw [List.length_append] at lg
  refine ⟨G, ?_, ?_, fun j a o q1 q2 => ?_⟩
  · refine List.nodup_append.mpr ⟨hr.nd, (List.nodup_append.mp hg.nd).2.1, fun a ha b hb z => ?_⟩
    obtain ⟨u, q⟩ := some_of a ha
    rw [z, mn b hb] at q; cases q
  · rw [List.length_append, List.length_append, setAll_len, List.length_drop, hr.len]; omega
  · by_cases hj : j < ι.length
    · rw [List.getElem?_append_left hj] at q1
      rw [List.getElem?_append_left (by rw [setAll_len, ← hr.len]; exact hj)] at q2
      by_cases hp : j ∈ is
      · obtain ⟨k, hk⟩ := List.getElem?_of_mem hp
        have hkl : k < κ.length := by rw [← l1]; exact (List.getElem?_eq_some_iff.mp hk).1
        obtain ⟨i, h3, h4⟩ := g1 k _ (List.getElem?_eq_getElem hkl)
        rw [hk] at h3; cases h3
        rw [q1] at h4
        have hkg : k < g.length := by omega
        have e5 := setAll_in (h := h) nd hk (List.getElem?_eq_getElem hkg) (by rw [← hr.len]; exact hj)
        rw [e5] at q2
        cases q2
        have ea : (κ ++ m)[k]? = some a := by rw [List.getElem?_append_left hkl, List.getElem?_eq_getElem hkl]; exact h4.symm
        exact (hg.obj k a _ ea (List.getElem?_eq_getElem hkg)).any (cg _ (List.getElem_mem hkg)) _
      · rw [setAll_out hp] at q2
        have r := hr.obj j a o q1 q2
        obtain ⟨u, hu, _⟩ := r.some
        have na : a ∉ κ := fun z => by
          obtain ⟨k, hk⟩ := List.getElem?_of_mem z
          obtain ⟨i, h3, h4⟩ := g1 k a hk
          have := nodup_ix2 hr.nd q1 h4
          subst this
          exact hp (List.mem_of_getElem? h3)
        exact r.mono G (by rw [hu]; exact gr.oth a u hu na)
    · have q1' := q1
      rw [List.getElem?_append_right (by omega)] at q1
      rw [List.getElem?_append_right (by rw [setAll_len, ← hr.len]; omega), setAll_len, ← hr.len, List.getElem?_drop] at q2
      have ea : (κ ++ m)[κ.length + (j - ι.length)]? = some a := by rw [List.getElem?_append_right (by omega)]; simpa using q1
      exact (hg.obj _ a o ea q2).any (cg o (List.mem_of_getElem? q2)) _
theorem loc_snd {m : Bool} {F : SF} {vs : List V} {ds : List D} {Q : VK} (r : Reps K ι H vs ds) (hr : HRep K ι H h) (o : out K X0 (repD K) ι H (sLoc m n F ds h) Q) (E : XK) :
    spOf K n F vs H (fun v H1 => ∃ L, Able H1 L ∧ ∀ H2, FrzOf L H1 H2 → Q v H2) E := by
  unfold sLoc at o
  split at o
  · rename_i hl
    refine ⟨by rw [r.len]; exact hl, ?_⟩
    unfold locR at o
    split at o
    · exact o.elim
    · rename_i os hos
      split at o
      · rename_i hc
        obtain ⟨nd, hd, hcl⟩ := hc
        obtain ⟨l0, g0⟩ := optL_get hos
        obtain ⟨κ, e1⟩ := optL_some ι (is := pinsD ds) fun i hi => by
          obtain ⟨j, hj⟩ := List.getElem?_of_mem hi
          have hjl : j < os.length := by rw [← l0]; exact (List.getElem?_eq_some_iff.mp hj).1
          obtain ⟨x, h3, h4⟩ := g0 j _ (List.getElem?_eq_getElem hjl)
          rw [hj] at h3; cases h3
          rw [hr.len]
          exact (List.getElem?_eq_some_iff.mp h4).1
        obtain ⟨l1, g1⟩ := optL_get e1
        have lk : κ.length = os.length := by omega
        have R0 : Reps K κ H vs (renum 0 ds) := by simpa using reps_renum (pre := []) r hd e1
        have H0 : HRep K κ H os := by
          refine ⟨nodup_getAll hr.nd e1 nd, lk, fun j a ob q1 q2 => ?_⟩
          obtain ⟨i, h3, h4⟩ := g1 j a q1
          obtain ⟨i', h5, h6⟩ := g0 j ob q2
          rw [h3] at h5; cases h5
          exact (hr.obj i a ob h4 h6).any (hcl ob (List.mem_of_getElem? q2)) _
        refine ⟨κ, renum 0 ds, os, R0, H0, ?_⟩
        cases hF : F (renum 0 ds) os with
        | no => rw [hF] at o; cases m <;> exact o.elim
        | ex c hx => rw [hF] at o; cases m <;> exact o.elim
        | ok d h1 =>
          rw [hF] at o
          intro ι' H' v g rb hr1
          rw [← lk] at o
          cases m with
          | false =>
            simp only [Bool.false_eq_true, if_false] at o
            cases hz : frzR κ.length (.ok d h1) with
            | ok d' g' =>
              rw [hz] at o
              simp only at o
              obtain ⟨L, ab, k⟩ := frz_end g rb hr1 hz
              refine ⟨L, ab, fun H2 f => ?_⟩
              obtain ⟨k1, k2, k3⟩ := k H2 f
              split at o
              · rename_i cg
                split at o
                · rename_i cd
                  have q := loc_back (m := []) hr e1 nd (by simpa using k1) (by simpa using k3) cg (by simp)
                  have lg := k3.len
                  have dr : g'.drop κ.length = [] := List.drop_eq_nil_of_le (by omega)
                  rw [dr, List.append_nil, List.append_nil] at q
                  exact o ι H2 v q.1 (k2.any cd _) q.2
                · exact o.elim
              · exact o.elim
            | ex c hx => rw [hz] at o; exact o.elim
            | no => rw [hz] at o; exact o.elim
          | true =>
            simp only [if_true] at o
            cases hz : frzM κ.length (.ok d h1) with
            | ok d' g' =>
              rw [hz] at o
              simp only at o
              obtain ⟨b, hb, k1, k2, k3⟩ := frz_endM g rb hr1 hz
              refine ⟨[], fun a ha => (by simp at ha), fun H2 f => ?_⟩
              have e2 : H2 = H' := by funext a; exact (f a).1 (by simp)
              subst e2
              split at o
              · rename_i cg
                have q := loc_back (m := [b]) hr e1 nd k1 k3 cg (by simp)
                refine o (ι ++ [b]) H2 v q.1 ?_ q.2
                have hd' : d' = .ref κ.length := by
                  unfold frzM at hz
                  split at hz
                  · rename_i i h2 hh
                    injection hh with z1 z2
                    split at hz
                    · split at hz
                      · injection hz with z3 z4; exact z3.symm
                      · cases hz
                    · cases hz
                  · cases hz
                subst hd'
                cases k2 with
                | ref hk =>
                  rw [List.getElem?_append_right (Nat.le_refl _)] at hk
                  simp at hk
                  subst hk
                  exact .ref (by rw [← hr.len]; simp)
              · exact o.elim
            | ex c hx => rw [hz] at o; exact o.elim
            | no => rw [hz] at o; exact o.elim
      · exact o.elim
  · exact o.elim
end
theorem me_callL (m : Bool) {X : Cx} {k n : Nat} {f : Addr} {fd : FuncData} {ps : List Str} {x : Str} {F : SF} {ka : SA} {e : Expr} {es : List Expr} {p pos : Pos} (G : Dn X.prog X.w X.K X.mg X.base k x ps (spOf X.K n F) f fd) (hr : Room k X.A) (hg : Gl X x) (ha : MA X X0 (e :: es) ka)
    (hdb : (x == ("__debug__" : Str)) = false := by decide) (he : starEach (e :: es) X.env = (false, eval e X.env) :: starEach es X.env := by rfl) (hpl : (backTo pos (starEach es X.env)).any (·.1) = false := by rfl) : ME X X0 (.Call (.Name x p) (e :: es) [] pos) (sA (sLoc m n F) ka) := by
  refine PE.weak (pe_frz (pe_call G.ok hr hg G.m G.kp G.b .nil pass0 ha hdb he hpl)) fun σ H Q ⟨ι, τ, h, S, Rh, o⟩ => ?_
  refine ⟨ι, τ, h, S, Rh, out_bind o fun ds h1 ι1 H1 vs g1 r1 hr1 o1 => ?_⟩
  rw [List.append_nil]
  exact loc_snd r1 hr1 o1 _
theorem me_callL0 (m : Bool) {X : Cx} {k n : Nat} {f : Addr} {fd : FuncData} {ps : List Str} {x : Str} {F : SF} {p pos : Pos} (G : Dn X.prog X.w X.K X.mg X.base k x ps (spOf X.K n F) f fd) (hr : Room k X.A) (hg : Gl X x) (hdb : (x == ("__debug__" : Str)) = false := by decide) :
    ME X X0 (.Call (.Name x p) [] [] pos) (sA (sLoc m n F) sNil) := by
  refine PE.weak (pe_frz (pe_call0 G.ok hr hg G.m G.kp G.b .nil pass0 hdb)) fun σ H Q ⟨ι, τ, h, S, Rh, o⟩ => ?_
  exact loc_snd (vs := []) .nil Rh o E0
end MI
set_option Elab.async false
set_option linter.all false
set_option maxRecDepth 100000
set_option maxHeartbeats 4000000
namespace MI
open PySem PySem.Spec L2
def sNoS : SS := fun _ _ => .no
section
variable {X : Cx} {E : XD}
theorem ms_no {st : Stmt} : MS X E st sNoS := fun _ _ _ _ _ _ ⟨_, _, _, _, _, o⟩ => o.elim
theorem mss_no {st : List Stmt} : MSs X E st sNoS := fun _ _ _ _ _ _ ⟨_, _, _, _, _, o⟩ => o.elim
end
theorem set_of {K : PySem.W.Frag} {E : XD} {f : SE} {i : Nat} {N : Ends} {σ : St} {H : Hp} (q : liftS K E (sSet i f) N σ H) : lift K E (repD K) f σ H (fun v H1 => N.nx (σ.set i (some v)) H1) := by
  obtain ⟨ι, τ, h, S, Rh, o⟩ := q
  exact ⟨ι, τ, h, S, Rh, out_fl o fun d h1 ι1 H1 v g1 r1 hr1 o1 => o1 ι1 H1 _ (.refl _ _) ((S.mono g1).set r1 i) hr1⟩
theorem comp_of {K : PySem.W.Frag} {E : XD} {fi : SI} {t : D → Option Sd} {fe : SE} {ix : List Nat} {n : Nat} {g : TG} {σ : St} {H : Hp} {Q : VK} (ht : TgOk K n g t) (q : lift K E (repD K) (sComp fi t fe ix) σ H Q) : tComp (lift K E (repI K) fi) (compSt n ix) g (lift K E (repD K) fe) σ H Q := by
  obtain ⟨ι, τ, h, Sr, Rh, o⟩ := q
  refine ⟨ι, τ, h, Sr, Rh, out_bind o fun it h1 ι1 H1 J g1 r1 hr1 o1 => ?_⟩
  by_cases hl : it.xs.length ≤ LINE
  · rw [if_pos hl] at o1
    exact comp_snd r1 ht (srep_frs (Sr.mono g1) ix) hr1 hl o1
  · rw [if_neg hl] at o1; exact o1.elim
section
variable {X : Cx} {E : XD} {elt tg iter cnd : Expr} {scope : Scope} {pos spos pos' : Pos} {cl : List (Str × Addr)} {ts fr : List Str} {ix : List Nat} {fi : SI} {g : TG} {t : D → Option Sd} {fe : SE} {fc : ST} {i : Nat} {x : Str}
theorem ms_setC (hN : X.N.Nodup) (hi' : X.N[i]? = some x) (hx : Loc X.env.scope x) (hc : X.calm = true) (S : CSc X scope cl ts fr ix) (hi : MI X E tg iter fi) (hg : ∀ C fp s H, PG (cxC X (ts ++ fr) scope cl C fp s H) tg g) (ht : TgOk X.K ts.length g t) (he : ∀ C fp s H, ME (cxC X (ts ++ fr) scope cl C fp s H) E elt fe)
    (hs : ∀ x, foldedSetIterable iter X.env x = pure x := by intro _; rfl) (hsw : swapsWith (.ListComp elt [⟨tg, iter, [], 0⟩] scope pos) (some (.Name x pos')) spos.line X.env = pure true := by rfl) (hf : X.fn x = true ∨ X.env.scope.names.lookup x = some .local := by first | exact .inl rfl | exact .inr rfl | assumption) :
    MS X E (.Assign [.Name x pos'] (.ListComp elt [⟨tg, iter, [], 0⟩] scope pos) spos) (sSet i (sComp fi t fe ix)) :=
  PS.weak (ps_lcomp (te := lift X.K E (repD X.K) fe) hN hi' hx hc S hi hg he hs hsw hf) fun N σ H q => comp_of ht (set_of q)
end
theorem def_fn {P : Program} {w : World} {K : PySem.W.Frag} {mg : Str → Option Value} {base : Heap} {x qual : Str} {st : Stmt} {f : Addr} {fd : FuncData} {N ps : List Str} {k : Nat} {b : SS} (Fu : Fun K x qual st f fd) (S : FnScope N ps (defScope st))
    (hb : ∀ (cdv : Value) (A : Around) (outer : List Env) (s : Shared) (H : Hp) (E : XK), Room k (A.deeper (PyProof.Rows.envOfC qual (defScope st) s.heap.objs.size f cdv)) → MSs (cxOf CX0 P w K mg base N qual (defScope st) f cdv A outer s H E).nox X0 (defBody st) b) :
    FnOk P w K mg base CX0 (k + 1) f fd ps (spOf K ps.length (bodyR b N.length)) := def_ok Fu S hb fun ds h _ _ _ => Rf.same rfl
end MI
set_option Elab.async false
set_option linter.all false
set_option maxRecDepth 100000
set_option maxHeartbeats 4000000
namespace MI
open PySem PySem.Spec L2 HT
theorem item_whole {prog : Program} {w : World} {A : Around} {E : Value → Shared → Prop} {s : Shared} {t sl : Addr} {items : Array Value} {vl vu : Value} {lo hi : Option Int} {Q : Value → Shared → Prop} (ht : PyProof.Rows.IsTup s.heap t items) (hs : s.heap.IsSliceOf sl vl vu .none) (pl : IsPart vl lo) (pu : IsPart vu hi)
    (hw : HT.sIx items.size 0 lo = 0 ∧ HT.sIx items.size items.size hi = items.size) (h : Q (.ref t) s) : wpAny (model prog w) A (getItem (.ref t) (.ref sl)) Q E s := by
  obtain ⟨os, f1, f2, f3⟩ := id hs
  have ty : s.TypeIs (.ref sl) "slice" := ⟨os, f1, f2⟩
  have tt : s.TypeIs (.ref t) "tuple" := ht.typeIs
  rw [getItem]
  try apply wpAny_holding
  first | (apply wpAny_bind; apply wpAny_pure) | skip
  apply wpAny_bind; apply wpAny_sequenceKey tt (by decide)
  apply wpAny_bind
  apply wpAny_callSpecial?_slot (name := Str.ofString "__getitem__") tt PyProof.Rows.slot_tuple_getitem
  apply wpAny_call_entry PyProof.Rows.slot_tuple_getitem tt PyProof.Rows.entry_tuple_getitem _ (PyProof.Rows.args_tuple_getitem _ _)
  change wpAny (model prog w) A.in1 (Builtin.Tuple.tupleItemsOf (.ref t) >>= _) _ _ s
  apply wpAny_bind; apply PyProof.Rows.tupleItemsOf_ ht
  apply wpAny_bind; apply wpAny_typeOf ty
  rw [if_pos (by decide)]
  apply wpAny_bind; apply HT.sliceApplied_gen hs pl pu
  rw [hw.1, hw.2]
  dsimp only
  rw [if_pos (by simp)]
  apply wpAny_bind
  rw [Builtin.Tuple.tupleIsExact]
  apply wpAny_bind; apply wpAny_typeOf tt
  apply wpAny_pure
  rw [if_pos (by decide)]
  apply wpAny_bind; apply wpAny_rule
  apply wpAny_pure
  exact ⟨_, rfl, wpAny_pure h⟩
def rSlW (K : PySem.W.Frag) : V → Option Int → Option Int → Hp → VK → Prop := fun x lo hi H Q => ∃ a xs, x = .ref a ∧ SqT K H a xs ∧ whole xs.length lo hi ∧ Q (.ref a) H
theorem sl_whole {X : Cx} : SlR X (rSlW X.K) := by
  intro pins s σ H x v vl vu lo hi sl Q I rx hs pl pu h
  obtain ⟨a, xs, rfl, hx, hw, q⟩ := h
  cases rx
  obtain ⟨its, r, ht, hz⟩ := I.tuple hx
  have hlen : its.toArray.size = xs.length := by rw [List.size_toArray]; exact r.length.symm
  exact ⟨"tuple", _, PyProof.Rows.slot_tuple_getitem.lookup, ht.typeIs, item_whole ht hs pl pu (by rw [hlen]; exact hw) ⟨.ref a, H, I, rfl, q⟩⟩
def gSl2 (d : D) (lo hi : Option Int) (h : Hd) : R D := match d with
  | .tup xs => if whole xs.length lo hi then .ok (.tup xs) h else .ok (.tup (cutL xs lo hi)) h
  | d => gSl d lo hi h
def sSl2 (f : SE) (l u : SO) : SE := fun τ h => (f τ h).bind fun d h1 => (l τ h1).bind fun lo h2 => (u τ h2).bind fun hi h3 => gSl2 d lo hi h3
theorem snd_sl2 {K : PySem.W.Frag} {E : XD} {ι : List Addr} {H : Hp} {h : Hd} {x : V} {d : D} {lo hi : Option Int} {Q : VK} (rx : Rep K ι H x d) (hr : HRep K ι H h) (o : out K E (repD K) ι H (gSl2 d lo hi h) Q) : (rSlS x lo hi H Q ∨ rSlT K x lo hi H Q ∨ rSlL K x lo hi H Q) ∨ rSlW K x lo hi H Q := by
  cases rx with
  | @tup p vs xs hp r =>
    by_cases hc : whole xs.length lo hi
    · simp only [gSl2, if_pos hc] at o
      exact .inr ⟨p, vs, rfl, SqT.of hp, by rw [r.len]; exact hc, ans o (.tup hp r) hr⟩
    · simp only [gSl2, if_neg hc] at o
      exact .inl (.inr (.inl ⟨p, vs, rfl, SqT.of hp, by rw [r.len]; exact hc, new_tup (reps_cut r lo hi) hr o⟩))
  | non => exact o.elim
  | bl _ => exact o.elim
  | int _ => exact o.elim
  | ty _ => exact o.elim
  | str z => exact .inl (snd_sl (.str z) hr o)
  | rol a b => exact .inl (snd_sl (.rol a b) hr o)
  | scr a b => exact .inl (snd_sl (.scr a b) hr o)
  | rod a b c => exact o.elim
  | rdT a b c => exact o.elim
  | exc a b c => exact o.elim
  | ref a => exact .inl (snd_sl (.ref a) hr o)
theorem me_slice2 {X : Cx} {E : XD} {e : Expr} {fa : SE} {lo hi : Option Expr} {l u : SO} {p2 pos : Pos} (he : ME X E e fa) (hl : MO X E lo l) (hu : MO X E hi u) : ME X E (.Subscript e (.Slice lo hi none p2) pos) (sSl2 fa l u) := by
  refine PE.weak (pe_slice ((sl_str.or (sl_tup.or sl_list)).or sl_whole) he hl hu) fun σ H Q ⟨ι, τ, h, S, Rh, o⟩ => ?_
  refine ⟨ι, τ, h, S, Rh, out_bind o fun d h1 ι1 H1 v g1 r1 hr1 o1 => ?_⟩
  refine ⟨ι1, τ, h1, S.mono g1, hr1, out_bind o1 fun lo h2 ι2 H2 lv g2 r2 hr2 o2 => ?_⟩
  refine ⟨ι2, τ, h2, (S.mono g1).mono g2, hr2, out_bind o2 fun hi h3 ι3 H3 hv g3 r3 hr3 o3 => ?_⟩
  cases r2; cases r3
  exact snd_sl2 ((r1.mono g2).mono g3) hr3 o3
end MI
set_option Elab.async false
set_option linter.all false
set_option maxRecDepth 100000
set_option maxHeartbeats 4000000
namespace TPM
open PySem PySem.Spec PySem.W L2 HT MI
end TPM
namespace MI
open PySem PySem.Spec L2 TPM
end MI
set_option Elab.async false
set_option linter.all false
set_option maxRecDepth 100000
set_option maxHeartbeats 4000000
namespace L2
open PySem PySem.Spec PyProof.Rows
theorem get_list {X : Cx} : PGet X (rIxL X.K) := by
  intro pins s σ H o i ov iv Q I ro ri h
  obtain ⟨p, xs, k, z, rfl, rfl, hq, he, q⟩ := h
  cases ro
  obtain ⟨t, rfl⟩ := ri
  obtain ⟨its, r, pl, hz⟩ := I.list hq
  obtain ⟨j, h1, h2, h3, h4, h5⟩ := atI_get he
  obtain ⟨w, ew, rw'⟩ := r.get h2
  have len := r.length
  have l63 := line63
  have done : EP X pins σ Q w s := ⟨z, H, I, rw', q⟩
  by_cases neg : k < 0
  · have ej : (k + (its.toArray.size : Int)).toNat = j := by
      rw [seqIndex_neg neg h4] at h1
      rw [List.size_toArray, ← len]
      exact Option.some.inj h1
    exact wpAny_getItem_list_neg pl.isList neg (by rw [List.size_toArray]; omega) (by omega) (by rw [ej]; simpa using ew) done
  · have ej : k.toNat = j := by
      rw [seqIndex_of (by omega) h5] at h1
      exact Option.some.inj h1
    exact wpAny_getItem_list pl.isList (by omega) (by omega) (by rw [ej]; simpa using ew) done
end L2
namespace MI
open PySem PySem.Spec L2
def gIxL (x y : D) (h : Hd) : R D := match x, y with
  | .ref p, .int i => (match h[p]? with | some (.lst xs) => (match atI xs i with | some d => .ok d h | none => .no) | _ => .no)
  | _, _ => .no
theorem snd_ixL {K : PySem.W.Frag} : Snd2 K gIxL (rIxL K) := by
  intro E ι H h x y dx dy Q rx ry hr o
  cases rx with
  | @ref p i hp =>
    cases ry with
    | int k =>
      simp only [gIxL] at o
      split at o
      · rename_i xs hx
        obtain ⟨vs, h3, h4⟩ := hr.lst hp hx
        split at o
        · rename_i d he
          obtain ⟨v, h1, h2⟩ := atI_reps h4 he
          exact ⟨p, vs, k, v, rfl, rfl, SqL.of h3, h1, ans o h2 hr⟩
        · exact o.elim
      · exact o.elim
    | _ => exact o.elim
  | _ => exact o.elim
def sAugS (g : D → D → Hd → R D) (fo fi fe : SE) : SS := fun τ h => (fo τ h).fl fun o h1 => (fi τ h1).fl fun i h2 => (gIxL o i h2).fl fun x h3 => (fe τ h3).fl fun y h4 => (g x y h4).fl fun z h5 => match put o i z h5 with | some h6 => .nx τ h6 | none => .no
section
variable {X : Cx} {E : XD} {e o i : Expr} {fa fb fc : SE} {pos : Pos}
theorem ms_augS {op : Operator} {r : R2} {gg : D → D → Hd → R D} {tpos : Pos} (ho : ME X E o fa) (hi : ME X E i fb) (he : ME X E e fc) (hp : OpR X (inplaceOp op) r) (hs : Snd2 X.K gg r)
    (ha : ∀ ov iv new, augStore i ov iv new = (do holding [new, ov, iv] (setItem ov iv new); release [new, ov, iv] []; pure .next) := by intros; rfl) : MS X E (.AugAssign (.Subscript o i tpos) op e pos) (sAugS gg fa fb fc) := by
  refine PS.weak (ps_augS ho hi get_list he hp set_list ha) fun N σ H ⟨ι, τ, h, S, Rh, oo⟩ => ?_
  refine ⟨ι, τ, h, S, Rh, out_fl oo fun d h1 ι1 H1 v g1 r1 hr1 o1 => ?_⟩
  refine ⟨ι1, τ, h1, S.mono g1, hr1, out_fl o1 fun d2 h2 ι2 H2 u g2 r2 hr2 o2 => ?_⟩
  refine snd_ixL E ι2 H2 h2 v u d d2 _ (r1.mono g2) r2 hr2 (out_fl o2 fun d3 h3 ι3 H3 w g3 r3 hr3 o3 => ?_)
  have S3 := ((S.mono g1).mono g2).mono g3
  refine ⟨ι3, τ, h3, S3, hr3, out_fl o3 fun d4 h4 ι4 H4 y g4 r4 hr4 o4 => ?_⟩
  refine hs E ι4 H4 h4 w y d3 d4 _ (r3.mono g4) r4 hr4 (out_fl o4 fun d5 h5 ι5 H5 z g5 r5 hr5 o5 => ?_)
  cases hq : put d d2 d5 h5 with
  | none => rw [hq] at o5; exact o5.elim
  | some h6 =>
    rw [hq] at o5
    exact put_snd ((((r1.mono g2).mono g3).mono g4).mono g5) (((r2.mono g3).mono g4).mono g5) r5 hr5 hq fun H' g6 hr6 => o5 ι5 H' σ g6 (((S3.mono g4).mono g5).mono g6) hr6
end
end MI
set_option Elab.async false
set_option linter.all false
set_option maxRecDepth 100000
set_option maxHeartbeats 4000000
namespace TPM
open PySem PySem.Spec PySem.W L2 HT MI
theorem tuple_cat0 (t b : Addr) (items2 : Array Value) (n n2 : Nat) (dd dd2 : Option Addr) (sl sl2 : Array (Option Value)) :
    Meets (Builtin.«tuple.__add__» ⟨[.ref t, .ref b], []⟩) (fun _ R s => s.heap.get? t = some { cls := .type "tuple", dict := dd, data := .seq #[] n, slots := sl } ∧ s.heap.get? b = some { cls := .type "tuple", dict := dd2, data := .seq items2 n2, slots := sl2 } ∧ R (.ok (.ret (.ref b))) s) := by
  refine .of_wp fun prog w A R s h => ?_
  obtain ⟨hp, g, d, tk, os⟩ := s
  obtain ⟨hl, hb, h⟩ := h
  wp_walk
  refine wpAny_of_eq sub_tuple_self ?_
  wp_walk
  exact ⟨_, rfl, h⟩
def rCat0 (K : PySem.W.Frag) : R2 := fun x y H Q => ∃ a b ys, x = .ref a ∧ y = .ref b ∧ SqT K H a [] ∧ SqT K H b ys ∧ Q (.ref b) H
theorem op_cat0 {X : Cx} : OpR X (binaryOp .Add) (rCat0 X.K) := by
  intro pins s σ H x y v u Q I rx ry h
  obtain ⟨a, b, ys, rfl, rfl, ha, hb, q⟩ := h
  cases rx
  cases ry
  obtain ⟨its, r1, p1, _⟩ := I.tuple ha
  obtain ⟨its2, r2, p2, _⟩ := I.tuple hb
  cases r1
  obtain ⟨⟨cls, dd, data, sl⟩, ho, hc, n, hd⟩ := id p1
  obtain ⟨⟨cls2, dd2, data2, sl2⟩, ho2, hc2, n2, hd2⟩ := id p2
  simp only at hc hd hc2 hd2
  subst hc hd hc2 hd2
  exact concat_meets ⟨_, ho, rfl⟩ ⟨_, ho2, rfl⟩ noFill_tuple_add seq_tuple_add F.slot_tuple_add F.entry_tuple_add (F.args_tuple_add_2 _ _) (tuple_cat0 a b its2.toArray n n2 dd dd2 sl sl2) ⟨ho, ho2, ⟨.ref b, H, I, rfl, q⟩⟩
end TPM
namespace MI
open PySem PySem.Spec L2 TPM
end MI
set_option Elab.async false
set_option linter.all false
set_option maxRecDepth 100000
set_option maxHeartbeats 4000000
namespace TPM
open PySem PySem.Spec PySem.W L2 HT MI PyProof.Rows
end TPM
namespace MI
open PySem PySem.Spec L2 TPM
end MI
set_option Elab.async false
set_option linter.all false
set_option maxRecDepth 100000
set_option maxHeartbeats 4000000
namespace L2
open PySem PySem.Spec PyProof.Rows
section
variable {X : Cx}
theorem Inv.lstR {pins : List (Addr × Obj)} {σ : St} {H : Hp} {s : Shared} {l : Addr} {xs : List V} (I : Inv X pins σ H s) (hH : Rd H l (.lst xs)) : xs.length ≤ sizeLine ∧ ∃ (its : List Value) (n : Nat), Vals xs its ∧ xs.length = its.length ∧ s.heap.get? l = some { cls := .type "list", data := .seq its.toArray n } := by
  obtain ⟨z, its, n, r, e⟩ := hH.ok I.hok
  exact ⟨z, its, n, r, r.length, e⟩
def rCatR : R2 := fun x y H Q => ∃ l b xs zs, x = .ref l ∧ y = .ref b ∧ Rd H l (.lst xs) ∧ Rd H b (.lst zs) ∧ xs.length + zs.length ≤ sizeLine ∧ ∀ p, H p = none → Q (.ref p) (upd H p (.lst (xs ++ zs)))
theorem op_catR : OpR X (binaryOp .Add) rCatR := fun pins s σ H x y v u Q I rx ry ⟨l, b, xs, zs, ex, ey, h1, h2, hz, q⟩ => by
  subst ex ey
  cases rx
  cases ry
  obtain ⟨_, as, _, va, la, ea⟩ := I.lstR h1
  obtain ⟨_, bs, _, vb, lb, eb⟩ := I.lstR h2
  have app : as.toArray ++ bs.toArray = (as ++ bs).toArray := by simp
  refine PySem.P.add_list ea eb ?_ (by simp; omega)
  rw [app]
  exact ⟨.ref _, _, I.lnew (t' := s.toks) (va.append vb) (by simpa using hz), rfl, q _ I.fresh⟩
def rExtR : V → List V → Hp → VK → Prop := fun x vs H Q => ∃ l b xs zs, x = .ref l ∧ vs = [.ref b] ∧ H l = some (.lst xs) ∧ Rd H b (.lst zs) ∧ xs.length + zs.length ≤ sizeLine ∧ Q .non (upd H l (.lst (xs ++ zs)))
theorem mt_extendR : MtM X "list.extend" rExtR := fun pins s σ H x vs v us Q I rx rv ⟨l, b, xs, zs, ex, ev, h1, h2, hz, q⟩ => by
  subst ex ev
  cases rx
  obtain ⟨u, rfl, ru⟩ := rv.one
  cases ru
  obtain ⟨_, as, n, va, la, ea⟩ := I.lstM h1
  obtain ⟨_, bs, m, vb, lb, eb⟩ := I.lstR h2
  have few : as.toArray.size + bs.toArray.size ≤ sizeLine := by simp; omega
  have long : ¬ (!as.toArray.isEmpty && Builtin.List.listTooLong (as.toArray.size + bs.toArray.size)) = true := by rw [notLongL few, Bool.and_false]; exact Bool.false_ne_true
  exact call_meets F.slot_list_extend ⟨_, ea, rfl⟩ F.entry_list_extend (F.args_list_extend_2 _ _) (AutoSeq1.list_extend_list_list_0 l as.toArray n b bs.toArray m long (by simp; omega) (by omega))
    ⟨ea, eb, .non, _, I.lset (its' := as ++ bs) h1 ea (by simp) (va.append vb) (by simpa using hz), rfl, q⟩
def rRepR : R2 := fun x y H Q => ∃ l k xs, x = .ref l ∧ y = .int k ∧ Rd H l (.lst xs) ∧ -(2 ^ 63) ≤ k ∧ k < 2 ^ 63 ∧ xs.length * k.toNat ≤ sizeLine ∧ ∀ p, H p = none → Q (.ref p) (upd H p (.lst (List.replicate k.toNat xs).flatten))
theorem rep_all (its : List Value) (k : Nat) : List.foldl (fun x1 x2 => x1 ++ x2) #[] (List.replicate (if its.toArray.isEmpty = true then 0 else k) its.toArray) = (List.replicate k its).flatten.toArray := by
  have g : ∀ m : Nat, List.foldl (fun x1 x2 => x1 ++ x2) #[] (List.replicate m its.toArray) = (List.replicate m its).flatten.toArray := fun m => by simpa using foldl_rep its m []
  cases its with
  | nil => simp
  | cons a r => rw [if_neg (by simp), g]
theorem op_repR : OpR X (binaryOp .Mult) rRepR := fun pins s σ H x y v u Q I rx ry ⟨l, k, xs, ex, ey, h1, k1, k2, hz, q⟩ => by
  subst ex ey
  cases rx
  obtain ⟨t, rfl⟩ := ry
  obtain ⟨_, as, n, va, la, ea⟩ := I.lstR h1
  have few : as.toArray.size * k.toNat ≤ sizeLine := by rw [List.size_toArray, ← la]; exact hz
  have top : (sizeLine : Nat) ≤ (2 ^ 63 - 1) / 8 := by decide
  refine wpAny_binaryOp_repeat_ref (T := "list") (U := "int") (by decide) ⟨_, ea, rfl⟩ (fun s' => typeIs_int s' k t) noFill_list_mul F.fills_int_mul F.slot_int_rmul repeat_list F.slot_int_index.lookup
    (call_meets F.slot_int_rmul (typeIs_int s k t) F.entry_int_rmul (F.args_int_rmul_2 _ _) (int___rmul___int_list k t l as.toArray n)
      ⟨ea, rfl, ⟨_, ea, rfl⟩, call_meets F.slot_list_mul ⟨_, ea, rfl⟩ F.entry_list_mul (F.args_list_mul_2 _ _)
        (AutoListH.list___mul___list_int_3 l as.toArray n k t (by rw [fitsIndex_both k1 k2]; exact Bool.false_ne_true) (by omega) (by rw [notLongL few]; exact Bool.false_ne_true)) ⟨ea, ?_⟩⟩)
  rw [rep_all]
  exact ⟨.ref _, _, I.lnew (t' := s.toks) (va.rep k.toNat) (by rw [len_rep, Nat.mul_comm]; exact hz), rfl, q _ I.fresh⟩
end
end L2
namespace MI
open PySem PySem.Spec L2 TPM
def lstOf (d : D) (h : Hd) : Option (List D) := match d with
  | .rol xs => some xs
  | .ref i => (match h[i]? with | some (.lst xs) => some xs | _ => none)
  | _ => none
section
variable {K : PySem.W.Frag} {ι : List Addr} {H : Hp} {h : Hd}
theorem lstOf_ok {x : V} {d : D} {xs : List D} (r : Rep K ι H x d) (hr : HRep K ι H h) (e : lstOf d h = some xs) : ∃ a vs, x = .ref a ∧ Rd H a (.lst vs) ∧ Reps K ι H vs xs := by
  cases r with
  | @rol a vs ys hp rs => cases e; exact ⟨a, vs, rfl, .inr hp, rs⟩
  | @ref a i hp =>
    obtain ⟨ob, e1, e2⟩ := hr.at hp
    simp only [lstOf, e1] at e
    cases ob with
    | lst ys => cases e; obtain ⟨vs, h3, h4⟩ := e2; exact ⟨a, vs, rfl, .inl h3, h4⟩
    | _ => cases e
  | _ => cases e
def gAddR : D → D → Hd → R D
  | .int i, .int j, h => .ok (.int (i + j)) h
  | .str x, .str y, h => if x.length + y.length ≤ LINE then .ok (.str (x ++ y)) h else .no
  | .tup [], .tup ys, h => .ok (.tup ys) h
  | .tup (x :: xs), .tup ys, h => if (x :: xs).length + ys.length ≤ LINE then .ok (.tup (x :: xs ++ ys)) h else .no
  | x, y, h => match lstOf x h, lstOf y h with
    | some xs, some ys => if xs.length + ys.length ≤ LINE then .ok (.ref h.length) (h ++ [.lst (xs ++ ys)]) else .no
    | _, _ => .no
theorem gAddR_l {x y : D} {xs ys : List D} (e1 : lstOf x h = some xs) (e2 : lstOf y h = some ys) : gAddR x y h = if xs.length + ys.length ≤ LINE then .ok (.ref h.length) (h ++ [.lst (xs ++ ys)]) else .no := by
  cases x <;> first | (cases e1; done) | (cases y <;> first | (cases e2; done) | (simp only [gAddR, e1, e2]))
theorem snd_addR : Snd2 K gAddR (fun x y H Q => (rI0 (fun i j => .int (i + j)) x y H Q ∨ (∃ i j, x = .str i ∧ y = .str j ∧ i.length + j.length ≤ sizeLine ∧ Q (.str (i ++ j)) H) ∨ rCatT K x y H Q ∨ rCatR x y H Q) ∨ rCat0 K x y H Q) := by
  intro E ι H h x y dx dy Q rx ry hr o
  have lists : ∀ xs ys, lstOf dx h = some xs → lstOf dy h = some ys → rCatR x y H Q := fun xs ys e1 e2 => by
    rw [gAddR_l e1 e2] at o
    obtain ⟨a, vs, rfl, h1, h2⟩ := lstOf_ok rx hr e1
    obtain ⟨b, us, rfl, h3, h4⟩ := lstOf_ok ry hr e2
    split at o
    · rename_i hc
      exact ⟨a, b, vs, us, rfl, rfl, h1, h3, ll (by rw [h2.len, h4.len]; exact hc), new_lst (h2.app h4) hr o⟩
    · exact o.elim
  cases hx : lstOf dx h with
  | some xs =>
    cases hy : lstOf dy h with
    | some ys => exact .inl (.inr (.inr (.inr (lists xs ys hx hy))))
    | none =>
      exfalso
      cases rx <;> first | (cases hx; done) | (cases ry <;> first | (simp only [gAddR, hx, hy] at o; exact o) | (simp only [gAddR] at o; exact o))
  | none =>
    cases rx with
    | int i =>
      cases ry with
      | int j => exact .inl (.inl ⟨i, j, rfl, rfl, ans o (.int _) hr⟩)
      | _ => exact o.elim
    | str i =>
      cases ry with
      | str j =>
        simp only [gAddR] at o
        split at o
        · rename_i hc; exact .inl (.inr (.inl ⟨i, j, rfl, rfl, ll hc, ans o (.str _) hr⟩))
        · exact o.elim
      | _ => exact o.elim
    | @tup a vs xs ha r1 =>
      cases ry with
      | @tup b us ys hb r2 =>
        cases xs with
        | nil => cases r1; exact .inr ⟨a, b, us, rfl, rfl, SqT.of ha, SqT.of hb, ans o (.tup hb r2) hr⟩
        | cons z xs =>
          simp only [gAddR] at o
          split at o
          · rename_i hc
            refine .inl (.inr (.inr (.inl ⟨a, b, vs, us, rfl, rfl, SqT.of ha, SqT.of hb, fun z => (by subst z; cases r1), ll (by rw [r1.len, r2.len]; exact hc), fun z => ?_, fun _ => ?_⟩)))
            · subst z; cases r2
              rw [List.append_nil] at o
              exact ans o (.tup ha r1) hr
            · exact new_tup (r1.app r2) hr o
          · exact o.elim
      | _ => cases xs <;> exact o.elim
    | rol _ _ => cases hx
    | ref _ => cases ry <;> (simp only [gAddR, hx] at o; exact o.elim)
    | _ => cases ry <;> exact o.elim
theorem me_addR {X : Cx} {E : XD} {a b : Expr} {fa fb : SE} {pos : Pos} (ha : ME X E a fa) (hb : ME X E b fb) : ME X E (.BinOp a .Add b pos) (s2 gAddR fa fb) :=
  me_op (OpR.or (op_add.or (op_add_str.or (op_catT.or op_catR))) op_cat0) snd_addR ha hb
open Classical in
noncomputable def gMulR : D → D → Hd → R D
  | .int i, .int j, h => if CMul i j then .ok (.int (i * j)) h else .no
  | x, .int k, h => match lstOf x h with
    | some xs => if (-(2 ^ 63) ≤ k ∧ k < 2 ^ 63) ∧ xs.length * k.toNat ≤ LINE then .ok (.ref h.length) (h ++ [.lst (List.replicate k.toNat xs).flatten]) else .no
    | none => .no
  | _, _, _ => .no
theorem snd_mulR : Snd2 K gMulR (fun x y H Q => rI CMul (fun i j => .int (i * j)) x y H Q ∨ rRepR x y H Q) := by
  intro E ι H h x y dx dy Q rx ry hr o
  cases ry with
  | int k =>
    cases hx : lstOf dx h with
    | some xs =>
      obtain ⟨a, vs, rfl, h1, h2⟩ := lstOf_ok rx hr hx
      have o' : out K E (repD K) ι H (if (-(2 ^ 63) ≤ k ∧ k < 2 ^ 63) ∧ xs.length * k.toNat ≤ LINE then .ok (.ref h.length) (h ++ [.lst (List.replicate k.toNat xs).flatten]) else .no) Q := by
        cases dx <;> first | (cases hx; done) | (simp only [gMulR, hx] at o; exact o)
      split at o'
      · rename_i hc
        exact .inr ⟨a, k, vs, rfl, rfl, h1, hc.1.1, hc.1.2, ll (by rw [h2.len]; exact hc.2), new_lst (h2.flat _) hr o'⟩
      · exact o'.elim
    | none =>
      cases rx with
      | int i =>
        by_cases hc : CMul i k
        · simp only [gMulR, if_pos hc] at o; exact .inl ⟨i, k, rfl, rfl, hc, ans o (.int _) hr⟩
        · simp only [gMulR, if_neg hc] at o; exact o.elim
      | _ => simp only [gMulR, hx] at o; exact o.elim
  | _ => cases rx <;> exact o.elim
theorem me_mulR {X : Cx} {E : XD} {a b : Expr} {fa fb : SE} {pos : Pos} (ha : ME X E a fa) (hb : ME X E b fb) : ME X E (.BinOp a .Mult b pos) (s2 gMulR fa fb) := me_op (op_mul.or op_repR) snd_mulR ha hb
def gExtR : D → List D → Hd → R D
  | .ref i, [.tup ys], h => (match h[i]? with | some (.lst xs) => if xs.length + ys.length ≤ LINE then .ok .non (h.set i (.lst (xs ++ ys))) else .no | _ => .no)
  | .ref i, [y], h => (match h[i]?, lstOf y h with | some (.lst xs), some ys => if xs.length + ys.length ≤ LINE then .ok .non (h.set i (.lst (xs ++ ys))) else .no | _, _ => .no)
  | _, _, _ => .no
theorem snd_extR : SndM K gExtR (fun x vs H Q => rExtR x vs H Q ∨ rExtendT K x vs H Q) := by
  intro E ι H h x dx xs ds Q rx r hr o
  unfold gExtR at o
  split at o
  · rename_i i ys
    cases rx with
    | @ref p _ hp =>
      cases r with
      | cons r1 rs =>
        cases rs
        cases r1 with
        | @tup b us zs hb rb =>
          split at o
          · rename_i xs hx
            obtain ⟨vs, h3, h4⟩ := hr.lst hp hx
            split at o
            · rename_i hc
              exact .inr ⟨p, b, vs, us, rfl, rfl, h3, SqT.of hb, ll (by rw [h4.len, rb.len]; exact hc), put_lst (h4.app rb) hr hp .non o⟩
            · exact o.elim
          · exact o.elim
  · rename_i i y _
    cases rx with
    | @ref p _ hp =>
      cases r with
      | cons r1 rs =>
        cases rs
        split at o
        · rename_i xs ys hx hy
          obtain ⟨vs, h3, h4⟩ := hr.lst hp hx
          obtain ⟨b, us, rfl, h5, h6⟩ := lstOf_ok r1 hr hy
          split at o
          · rename_i hc
            exact .inl ⟨p, b, vs, us, rfl, rfl, h3, h5, ll (by rw [h4.len, h6.len]; exact hc), put_lst (h4.app h6) hr hp .non o⟩
          · exact o.elim
        · exact o.elim
  · exact o.elim
end
end MI
set_option Elab.async false
set_option linter.all false
set_option maxRecDepth 100000
set_option maxHeartbeats 4000000
namespace MI
open PySem PySem.Spec L2
def keyD : D → Option Key
  | .int i => some (.inl i)
  | .str x => some (.inr x)
  | _ => none
def keyT : D → Option (List Key)
  | .tup xs => optL keyD xs
  | _ => none
def putD {κ : Type} [DecidableEq κ] (kvs : List (κ × D)) (k : κ) (d : D) : List (κ × D) := if (kvs.any fun kv => decide (kv.1 = k)) = true then kvs.map fun kv => if kv.1 = k then (kv.1, d) else kv else kvs ++ [(k, d)]
section
variable {K : PySem.W.Frag} {ι : List Addr} {H : Hp} {h : Hd}
variable {X : Cx} {E : XD} {a b e o i : Expr} {fa fb fc : SE} {pos : Pos}
def dPut (o k v : D) (h : Hd) : Option Hd := match o with
  | .ref i => (match h[i]? with
    | some (.dK kvs) => (match keyD k with | some kk => if kvs.length < LINE then some (h.set i (.dK (putD kvs kk v))) else none | none => none)
    | some (.dT kvs) => (match keyT k with | some kk => if kvs.length < LINE then some (h.set i (.dT (putD kvs kk v))) else none | none => none)
    | _ => none)
  | _ => none
def sDSet (fe fo fi : SE) : SS := fun τ h => (fe τ h).fl fun v h1 => (fo τ h1).fl fun o h2 => (fi τ h2).fl fun k h3 => match dPut o k v h3 with | some h4 => .nx τ h4 | none => .no
end
end MI
set_option Elab.async false
set_option linter.all false
set_option maxRecDepth 100000
set_option maxHeartbeats 4000000
namespace ZP
open PySem PySem.Spec PySem.Builtin PySem.Builtin.SmallTypes L2
def enumOb (it : Addr) : Obj := { cls := .type "enumerate", data := .fields #[.none, .bool false, .ref it, rawInt 0, .none, .none] }
theorem enum_made (t : Tok) (k : Srk) (us : List Value) : Meets (Builtin.«enumerate.__new__» ⟨[.type "enumerate", val t k], []⟩)
    (fun _ R s => cont s.heap k us ∧ R (.ok (.ret (.ref (s.heap.objs.size + 1)))) { s with heap := (s.heap.push (iob t k)).push (enumOb s.heap.objs.size) }) :=
  .of_wp fun prog w A R s h => by
    obtain ⟨hp, g, d, tk, os⟩ := s
    obtain ⟨c, h⟩ := h
    have sub := sub_enumerate
    have c' : cont (Shared.heap ⟨hp, g, d, tk, os⟩) k us := c
    have fin : R (.ok (.ret (.ref (hp.push (iob t k)).objs.size))) { heap := (hp.push (iob t k)).push (enumOb hp.objs.size), gens := g, drawn := d, toks := tk, os := os } := by simpa [Heap.size_push] using h
    wp_walk
    refine wpAny_stack_any fun st => wpAny_pure ?_
    split
    · rename_i cl _ _ _ _ _
      cases (cl == Value.type "enumerate")
      · wp_walk using iter_src (t := t) c'
        exact ⟨_, rfl, fin⟩
      · wp_walk using iter_src (t := t) c'
        exact ⟨_, rfl, fin⟩
    · wp_walk using iter_src (t := t) c'
      exact ⟨_, rfl, fin⟩
def ItE (k : Srk) : It where
  go := fun i H => ∃ xs x, its H k = some xs ∧ xs[i]? = some x
  yld := fun i H v H' => ∃ xs x p, its H k = some xs ∧ xs[i]? = some x ∧ H p = none ∧ v = .ref p ∧ H' = upd H p (.tup [.int i, x])
  stop := fun i H => ∃ xs, its H k = some xs ∧ i = xs.length
def tnE (e it : Addr) (t : Tok) (k : Srk) (i : Nat) (h : Heap) : Prop := (∃ old, IsEnum h e it i old) ∧ own it t k i h
theorem turn_enum {P : Program} {w : World} {K : PySem.W.Frag} {elts : List Expr} {x1 : Nat} {pos : Pos} {e it : Addr} {t : Tok} {k : Srk} (ne : e ≠ it) : Turn P w K (.Tuple elts x1 pos) (ItE k) [e, it] e (tnE e it t k) where
  mem := by simp
  obj := fun i h st b hb => by
    obtain ⟨⟨old, h1⟩, h4⟩ := st
    simp only [List.mem_cons, List.not_mem_nil, or_false] at hb
    rcases hb with rfl | rfl
    · exact ⟨_, h1, fun v z => (by cases z)⟩
    · exact own_obj h4
  keep := fun i h h' st kk => by
    obtain ⟨⟨old, h1⟩, h4⟩ := st
    exact ⟨⟨old, kk e (by simp) _ h1⟩, own_keep h4 fun ob q => kk it (by simp) ob q⟩
  item := by
    intro X hP hw hK hc i pins s σ H E I hf st hg
    subst hP hw hK
    obtain ⟨xs, x, e1, g1⟩ := hg
    obtain ⟨⟨old, h1⟩, h4⟩ := st
    have n : ∀ c ∈ [e, it], H c = none := fun c hc => (hf c hc).1
    obtain ⟨cs, P1, S1, D1, a1, b1, c1, d1⟩ := draw_of I (t := t) e1 (n it (by simp))
    have hd := I.ok.hd hc
    have ef : e ∉ it :: cs := by
      intro z
      rcases List.mem_cons.mp z with z | z
      · exact ne z
      · exact c1 e z (n e (by simp))
    refine wpAny_pyNext_enum_itemD (D1 X.A.in1 hd) h1 (a1 i h4) (List.getElem?_eq_some_iff.mp g1).1 ne ef fun u h' tk pu eo s1' pr sz kp => ?_
    obtain ⟨x', q1, r1⟩ := d1 i u pu
    rw [g1] at q1; cases q1
    refine ⟨_, rfl, wpAny_letOwnedTupleGo_enum eo fun h2' z2' sb => ?_⟩
    have hp : H s.heap.objs.size = none := I.hok.fresh (Nat.le_refl _)
    have lt : ∀ c ∈ [e, it], c < s.heap.objs.size := fun c hc => by
      simp only [List.mem_cons, List.not_mem_nil, or_false] at hc
      rcases hc with rfl | rfl
      · exact Heap.lt_size h1
      · obtain ⟨_, q, _⟩ := own_obj h4; exact Heap.lt_size q
    have nT : ∀ c ∈ [e, it], c ≠ s.heap.objs.size := fun c hc => Nat.ne_of_lt (lt c hc)
    have all : ∀ c o, c ∉ [e, it] → s.heap.get? c = some o → h2'.get? c = some o := fun c o nc q => by
      simp only [List.mem_cons, List.not_mem_nil, or_false, not_or] at nc
      exact (sb.2 c nc.1).trans (kp c o nc.1 nc.2 q)
    have I0 : Inv X pins σ (upd H s.heap.objs.size (.tup [.int i, x])) { s with heap := s.heap.push { cls := .type "tuple", data := .seq #[.int i tk, u] } } :=
      I.laid (t' := s.toks) (o := .tup [.int i, x]) (fun b o q => Heap.get?_push_of_some _ q) (Nat.le_refl _) ⟨by show 2 ≤ sizeLine; decide, [.int i tk, u], .cons ⟨tk, rfl⟩ (.cons r1 .nil), ⟨_, Heap.get?_push_size _ rfl, rfl, _, rfl⟩⟩
    have I1 : Inv X pins σ (upd H s.heap.objs.size (.tup [.int i, x])) { s with heap := h2', toks := tk + 1 } := by
      refine turnedL (s := { s with heap := s.heap.push { cls := .type "tuple", data := .seq #[.int i tk, u] } }) (ch := [e, it]) I0 (fun b hb => ?_) fun c o nc q => ?_
      · obtain ⟨f0, f1⟩ := hf b hb
        exact ⟨by rw [upd_ne (nT b hb)]; exact f0, f1⟩
      · rcases Heap.get?_push_cases q with ⟨rfl, rfl⟩ | q
        · exact (sb.2 _ (nT e (by simp)).symm).trans pr
        · exact all c o nc q
    refine ⟨.ref s.heap.objs.size, _, I1, rfl, ⟨xs, x, _, e1, g1, hp, rfl, rfl⟩, ⟨⟨u, by simpa using z2'⟩, own_keep (b1 _ _ s1') fun ob q => (sb.2 _ ne.symm).trans q⟩, fun b hb => ?_⟩
    rw [upd_ne (nT b hb)]; exact n b hb
  done := by
    intro X hP hw hK hc i pins s σ H E I hf st hg
    subst hP hw hK
    obtain ⟨xs, e1, rfl⟩ := hg
    obtain ⟨⟨old, h1⟩, h4⟩ := st
    have n : ∀ c ∈ [e, it], H c = none := fun c hc => (hf c hc).1
    obtain ⟨cs, P1, S1, D1, a1, b1, c1, d1⟩ := draw_of I (t := t) e1 (n it (by simp))
    have hd := I.ok.hd hc
    refine wpAny_pyNext_enum_endD (D1 X.A.in1 hd) h1 (a1 _ h4) fun h' ex => ⟨rfl, turnedL (t' := s.toks) I hf fun c o nc q => ?_⟩
    simp only [List.mem_cons, List.not_mem_nil, or_false, not_or] at nc
    exact ex c o nc.2 q
  self := fun _ _ _ _ _ st h => by
    obtain ⟨⟨old, h1⟩, _⟩ := st
    exact wpAny_pyIter_enum h1 h
section
variable {X : Cx} {elts : List Expr} {x1 : Nat} {tpos : Pos}
def iEnum (ta : TA) : TI := fun σ H R => ta σ H fun vs H1 => ∃ k xs, vs = [Srk.v k] ∧ its H1 k = some xs ∧ R (ItE k) H1
theorem pi_enum {e1 : Expr} {ta : TA} {p pos : Pos} (hg : Gl X "enumerate") (hm : X.mg "enumerate" = none) (ha : PA X [e1] ta)
    (h1 : starEach [e1] X.env = [(false, eval e1 X.env)] := by rfl) : PI X (.Tuple elts x1 tpos) (.Call (.Name "enumerate" p) [e1] [] pos) (iEnum ta) := by
  intro pins s σ H R I h
  refine wpAny_Call_Name_kw (ld_blt I hg hm PyProof.Rows.boot_enumerate ?_ (by decide) (by decide))
  refine PyProof.Rows.callWith_type1 (thn (ha pos pins s σ H _ I h) fun us s1 ⟨vs, H1, I1, r1, q1⟩ => ?_) (by rw [h1]; rfl) (by rfl)
  obtain ⟨k, xs, rfl, e1, q⟩ := q1
  obtain ⟨v1, rfl, rv1⟩ := vals1 r1
  obtain ⟨t, rfl⟩ := val_of rv1
  obtain ⟨us1, c1, _⟩ := cont_of I1 e1
  refine callType_new F.called_enumerate (by decide) (F.typeCall_enumerate_1 _) (F.newCall_enumerate_1 _) (fun obj => F.args_object_init_2 obj _) F.entry_enumerate_new (enum_made t k us1) ⟨c1, ?_⟩
  have at0 : ((s1.heap.push (iob t k)).push (enumOb s1.heap.objs.size)).get? s1.heap.objs.size = some (iob t k) := Heap.get?_push_of_some _ (Heap.get?_push_size _ (by cases k <;> rfl))
  have at1 : IsEnum ((s1.heap.push (iob t k)).push (enumOb s1.heap.objs.size)) (s1.heap.objs.size + 1) s1.heap.objs.size 0 .none := by
    have := Heap.get?_push_size (o := enumOb s1.heap.objs.size) (s1.heap.push (iob t k)) rfl
    rw [Heap.size_push] at this
    exact this
  have keepA : ∀ b o, s1.heap.get? b = some o → ((s1.heap.push (iob t k)).push (enumOb s1.heap.objs.size)).get? b = some o := fun b o q => Heap.get?_push_of_some _ (Heap.get?_push_of_some _ q)
  have I2 : Inv X pins σ H1 { s1 with heap := (s1.heap.push (iob t k)).push (enumOb s1.heap.objs.size) } := I1.kept (t' := s1.toks) keepA
  refine ⟨⟨_, at1, rfl⟩, ?_⟩
  refine wpAny_pyIter_enum (s := { s1 with heap := (s1.heap.push (iob t k)).push (enumOb s1.heap.objs.size) }) at1 ?_
  refine ⟨s1.heap.objs.size + 1, [s1.heap.objs.size + 1, s1.heap.objs.size], tnE _ _ t k, ItE k, H1, rfl, I2, turn_enum (by intro z; have z : (_ : Nat) = _ := z; omega), ⟨⟨.none, at1⟩, own0 at0⟩, fun b hb => ?_, q⟩
  have : s1.heap.objs.size ≤ b := by
    simp only [List.mem_cons, List.not_mem_nil, or_false] at hb
    rcases hb with rfl | rfl
    · exact Nat.le_succ _
    · exact Nat.le_refl _
  exact I1.fpOk this (I1.hok.fresh this)
end
end ZP
namespace MI
open PySem PySem.Spec L2 ZP
def gEnum (x : D) (h : Hd) : R Itm := match srcOf x h with
  | some (xs, c) => .ok ⟨((List.range xs.length).zip xs).map fun p => .tup [.int (p.1 : Nat), p.2], c⟩ h
  | none => .no
def sEnum (f : SE) : SI := fun τ h => (f τ h).bind gEnum
theorem mi_enum {X : Cx} {E : XD} {elts : List Expr} {x1 : Nat} {tpos : Pos} {e1 : Expr} {f : SE} {p pos : Pos} (hg : Gl X "enumerate") (hm : X.mg "enumerate" = none) (ha : ME X E e1 f)
    (h1 : starEach [e1] X.env = [(false, eval e1 X.env)] := by rfl) : MI X E (.Tuple elts x1 tpos) (.Call (.Name "enumerate" p) [e1] [] pos) (sEnum f) := by
  intro pins s σ H Rr I ⟨ι, τ, h, S, Rh, o⟩
  refine pi_enum hg hm (pa_cons ha pa_nil (by rw [h1]; rfl)) h1 pins s σ H Rr I ?_
  refine ⟨ι, τ, h, S, Rh, out_bind o fun d h1 ι1 H1 v g1 r1 hr1 o1 => ?_⟩
  unfold gEnum at o1
  split at o1
  · rename_i xs c q1
    obtain ⟨k, rfl, kc, kf⟩ := src_ok r1 hr1 q1
    obtain ⟨vs, w1, w2⟩ := kf ι1 H1 h1 (.refl _ _) hr1 kc
    refine ⟨k, vs, rfl, w1, o1 ι1 H1 _ (.refl _ _) ?_ hr1⟩
    intro ι3 H3 h3 g3 hr3 c3
    obtain ⟨us, a1, a2⟩ := kf ι3 H3 h3 g3 hr3 c3
    refine ⟨fun i d ed => ?_, us, a1, ?_⟩
    · simp only [List.getElem?_map, Option.map_eq_some_iff] at ed
      obtain ⟨⟨j, y⟩, ez, rfl⟩ := ed
      obtain ⟨ex, ey⟩ := List.getElem?_zip_eq_some.mp ez
      have hj : j = i := by
        obtain ⟨_, q⟩ := List.getElem?_eq_some_iff.mp ex
        simpa using q.symm
      subst hj
      obtain ⟨v2, b3, b4⟩ := a2.get ey
      refine ⟨⟨us, v2, a1, b3⟩, fun x H' yl => ?_⟩
      obtain ⟨xs', x', p, c1, c3, c5, rfl, rfl⟩ := yl
      rw [a1] at c1; cases c1
      rw [b3] at c3; cases c3
      exact ⟨gr_new c5 _, .tup upd_same (.cons (.int _) (.cons (b4.mono (gr_new c5 _)) .nil)), hr3.aside c5 _⟩
    · rw [List.length_map, List.length_zip, List.length_range, a2.len]
      omega
  · exact o1.elim
end MI
set_option Elab.async false
set_option linter.all false
set_option maxRecDepth 100000
set_option maxHeartbeats 4000000
namespace L2
open PySem PySem.Spec PyProof.Rows
section
variable {X : Cx}
def rngV (lo : Int) (n : Nat) : List V := (List.range n).map fun i => V.int (lo + (i : Nat))
theorem rng_vals {lo : Int} {n : Nat} {acc : Array Value} (h : ItemsOf (fun i v => ∃ t, v = .int (lo + i * 1) t) acc n) : Vals (rngV lo n) acc.toList := by
  obtain ⟨hs, ha⟩ := h
  have key : ∀ (k : Nat) (us : List Value) (a : Int), us.length = k → (∀ (j : Nat) (v : Value), us[j]? = some v → ∃ t, v = .int (a + (j : Nat)) t) → Vals ((List.range k).map fun i => V.int (a + (i : Nat))) us := by
    intro k
    induction k with
    | zero => intro us a hl _; cases us with | nil => exact .nil | cons _ _ => simp at hl
    | succ k ih =>
      intro us a hl hp
      cases us with
      | nil => simp at hl
      | cons u us =>
        rw [List.range_succ_eq_map, List.map_cons, List.map_map]
        refine .cons ?_ ?_
        · obtain ⟨t, e⟩ := hp 0 u rfl
          exact ⟨t, e⟩
        · have := ih us (a + 1) (by simpa using hl) fun j v e => by
            obtain ⟨t, q⟩ := hp (j + 1) v (by simpa using e)
            exact ⟨t, by rw [q]; congr 1; push_cast; omega⟩
          have fe : ((fun i : Nat => V.int (a + (i : Nat))) ∘ Nat.succ) = fun i : Nat => V.int (a + 1 + (i : Nat)) := by funext i; simp; omega
          rw [fe]; exact this
  refine key n _ lo (by simp [hs]) fun j v e => ?_
  obtain ⟨t, q⟩ := ha j v (by simpa using e)
  exact ⟨t, by rw [q, Int.mul_one]⟩
def Bd (lo hi : Int) : Prop := -(2 ^ 62) ≤ lo ∧ lo < 2 ^ 62 ∧ -(2 ^ 62) ≤ hi ∧ hi < 2 ^ 62
theorem call_list_rng (hc : X.calm = true) : CallR X (.type "list") (fun xs H Q => ∃ p lo hi, xs = [.ref p] ∧ H p = some (.rng lo hi) ∧ Bd lo hi ∧ (hi - lo).toNat ≤ sizeLine ∧ ∀ l, H l = none → Q (.ref l) (upd H l (.lst (rngV lo (hi - lo).toNat)))) := by
  intro pins s σ H xs us Q I r ⟨p, lo, hi, e, hp, ⟨b1, b2, b3, b4⟩, hl, q⟩
  subst e
  obtain ⟨u, rfl, ru⟩ := vals1 r
  cases ru
  obtain ⟨t, u, v, ho⟩ := I.hok p _ hp
  refine call_list_range (n := (hi - lo).toNat) (I.ok.hd hc) ho (small_one b1 b2 b3 b4) (by rw [rangeSize_one]; split <;> omega) (by have := sizeLine_eq; omega) fun h' tk acc c kp e hi' => ?_
  exact ⟨.ref s.heap.objs.size, _, I.laid (t' := tk) kp (Nat.le_refl _) (show ObjOk X.prog X.w _ h' _ (.lst (rngV lo (hi - lo).toNat)) from ⟨by simpa [rngV] using hl, acc.toList, c, rng_vals hi', by simpa using e⟩), rfl, q _ (I.hok.fresh (Nat.le_refl _))⟩
def tRng2 (ta : TA) : TE := fun σ H Q => ta σ H fun vs H1 => ∃ i j, vs = [.int i, .int j] ∧ ∀ p, H1 p = none → Q (.ref p) (upd H1 p (.rng i j))
theorem laid_rng {pins : List (Addr × Obj)} {σ : St} {H : Hp} {s : Shared} {Q : VK} {lo hi : Int} {t u v : Tok} {tk : Nat} (I : Inv X pins σ H s) (q : ∀ p, H p = none → Q (.ref p) (upd H p (.rng lo hi))) :
    EP X pins σ Q (.ref s.heap.objs.size) { s with heap := s.heap.push { cls := .type "range", data := .fields #[.int lo t, .int hi u, .int 1 v] }, toks := tk } :=
  ⟨.ref _, _, I.laid (t' := tk) (o := .rng lo hi) (fun b o e => Heap.get?_push_of_some _ e) (Nat.le_refl _) ⟨t, u, v, Heap.get?_push_size _ rfl⟩, rfl, q _ (I.hok.fresh (Nat.le_refl _))⟩
theorem pe_range2 {a b : Expr} {ta : TA} {p pos : Pos} (hg : Gl X "range") (hm : X.mg "range" = none) (ha : PA X [a, b] ta) (hs : starEach [a, b] X.env = [(false, eval a X.env), (false, eval b X.env)] := by rfl) (hs2 : starEach [b] X.env = [(false, eval b X.env)] := by rfl) :
    PE X (.Call (.Name "range" p) [a, b] [] pos) (tRng2 ta) := by
  intro pins s σ H Q I h
  refine Call_ (ld_blt I hg hm boot_range (PyProof.Rows.callWith_type1 (thn (ha pos pins s σ H _ I h) fun us s1 ⟨vs, H1, I1, r1, i, j, ev, q⟩ => ?_) (by rw [hs, hs2]) (by rw [hs2]; rfl)))
  subst ev
  obtain ⟨u1, u2, rfl, ⟨t, rfl⟩, ⟨t', rfl⟩⟩ := vals2 r1
  exact call_range_2 (laid_rng I1 q)
end
end L2
namespace MI
open PySem PySem.Spec L2
def gLRng2 : List D → Hd → R D
  | [.int i, .int j], h => if (B62 i ∧ B62 j) ∧ (j - i).toNat ≤ LINE then .ok (.ref h.length) (h ++ [.lst (rng i (j - i).toNat)]) else .no
  | _, _ => .no
theorem reps_rng {K : PySem.W.Frag} {ι : List Addr} {H : Hp} (lo : Int) (n : Nat) : Reps K ι H (rngV lo n) (rng lo n) := by
  unfold rngV rng
  generalize List.range n = l
  induction l with
  | nil => exact .nil
  | cons i l ih => exact .cons (.int _) ih
section
variable {X : Cx} {E : XD} {a b : Expr} {ka : SA} {p p2 pos pos2 : Pos}
theorem rng_two {K : PySem.W.Frag} {ι : List Addr} {H : Hp} {h : Hd} {Q : VK} {q : Addr} {lo hi : Int} (hr : HRep K ι H h) (hq : H q = none) (c : (hi - lo).toNat ≤ LINE) (b : Bd lo hi) (o : out K E (repD K) ι H (.ok (.ref h.length) (h ++ [.lst (rng lo (hi - lo).toNat)])) Q) :
    ∃ p lo' hi', [V.ref q] = [V.ref p] ∧ (upd H q (.rng lo hi)) p = some (.rng lo' hi') ∧ Bd lo' hi' ∧ (hi' - lo').toNat ≤ sizeLine ∧ ∀ l, (upd H q (.rng lo hi)) l = none → Q (.ref l) (upd (upd H q (.rng lo hi)) l (.lst (rngV lo' (hi' - lo').toNat))) :=
  ⟨q, lo, hi, rfl, upd_same, b, ll c, new_lst (E := E) (reps_rng lo _) (hr.aside hq _) (out_mono o (gr_new hq _))⟩
theorem me_lrng2 (hc : X.calm = true) (hg : Gl X "list") (hm : X.mg "list" = none) (hg2 : Gl X "range") (hm2 : X.mg "range" = none) (ha : MA X E [a, b] ka) (hs : starEach [a, b] X.env = [(false, eval a X.env), (false, eval b X.env)] := by rfl) (hs2 : starEach [b] X.env = [(false, eval b X.env)] := by rfl)
    (he : starEach [.Call (.Name "range" p2) [a, b] [] pos2] X.env = (false, eval (.Call (.Name "range" p2) [a, b] [] pos2) X.env) :: starEach [] X.env := by rfl) (hpl : (backTo pos (starEach [] X.env)).any (·.1) = false := by rfl) :
    ME X E (.Call (.Name "list" p) [.Call (.Name "range" p2) [a, b] [] pos2] [] pos) (sA gLRng2 ka) := by
  refine PE.weak (pe_callTy (call_list_rng hc) hg hm bt_list (pa_cons (pe_range2 hg2 hm2 ha hs hs2) pa_nil he) (by decide) (by decide) he hpl) fun σ H Q ⟨ι, τ, h, S, Rh, o⟩ => ?_
  refine ⟨ι, τ, h, S, Rh, out_bind o fun ds h1 ι1 H1 vs g1 r1 hr1 o1 => ?_⟩
  unfold gLRng2 at o1
  split at o1
  · split at o1
    · rename_i i j hb
      cases r1 with
      | cons r rs =>
        cases r
        cases rs with
        | cons r rs =>
          cases r; cases rs
          exact ⟨i, j, rfl, fun q hq => rng_two hr1 hq hb.2 ⟨hb.1.1.1, hb.1.1.2, hb.1.2.1, hb.1.2.2⟩ o1⟩
    · exact o1.elim
  · exact o1.elim
end
end MI
set_option Elab.async false
set_option linter.all false
set_option maxRecDepth 100000
set_option maxHeartbeats 4000000
namespace L2
open PySem PySem.Spec PyProof.Rows
section
variable {X : Cx} {tg : Expr}
end
end L2
namespace MI
open PySem PySem.Spec L2
def rngD (lo : Int) (n : Nat) : List D := (List.range n).map fun i => D.int (lo - (i : Nat))
def gRng3 (ds : List D) (h : Hd) : R Itm := match ds with
  | [.int i, .int j, .int k] => if k = -1 ∧ B62 i ∧ B62 j then .ok ⟨rngD i (i - j).toNat, fun _ => True⟩ h else .no
  | _ => .no
end MI
set_option Elab.async false
set_option linter.all false
namespace MI
open PySem PySem.Spec L2
end MI
set_option Elab.async false
set_option linter.all false
set_option maxRecDepth 100000
set_option maxHeartbeats 4000000
namespace MI
open PySem PySem.Spec L2
theorem bind_ok {α β : Type} (a : α) (h : Hd) (k : α → Hd → R β) : (R.ok a h).bind k = k a h := rfl
theorem fl_ok {α : Type} (a : α) (h : Hd) (k : α → Hd → Fl) : (R.ok a h).fl k = k a h := rfl
def thn (r : Fl) (g : SS) : Fl := match r with | .nx τ h => g τ h | r => r
theorem sSeq_thn (f g : SS) (τ : Sd) (h : Hd) : sSeq f g τ h = thn (f τ h) g := by unfold sSeq thn; cases f τ h <;> rfl
theorem thn_nx (τ : Sd) (h : Hd) (g : SS) : thn (.nx τ h) g = g τ h := rfl
theorem thn_rt (d : D) (h : Hd) (g : SS) : thn (.rt d h) g = .rt d h := rfl
def toR (r : Fl) : R D := match r with | .rt d h1 => .ok d h1 | .nx _ h1 => .ok .non h1 | .ex c h1 => .ex c h1 | _ => .no
theorem body_toR (b : SS) (n : Nat) (ds : List D) (h : Hd) : bodyR b n ds h = toR (b (startD n ds) h) := by unfold bodyR toR; cases b (startD n ds) h <;> rfl
theorem toR_rt (d : D) (h : Hd) : toR (.rt d h) = .ok d h := rfl
theorem toR_nx (τ : Sd) (h : Hd) : toR (.nx τ h) = .ok .non h := rfl
theorem clos_iff {n : Nat} : ∀ {xs : List D}, clos n xs ↔ ∀ x ∈ xs, clo n x
  | [] => by simp [clos]
  | x :: xs => by simp [clos, clos_iff (xs := xs)]
theorem clo_int {n : Nat} (i : Int) : clo n (.int i) := by simp [clo]
theorem clo_str {n : Nat} (i : Str) : clo n (.str i) := by simp [clo]
theorem clo_bl {n : Nat} (i : Bool) : clo n (.bl i) := by simp [clo]
theorem clos_nil {n : Nat} : clos n [] := by simp [clos]
theorem clos_cons {n : Nat} {x : D} {xs : List D} (a : clo n x) (b : clos n xs) : clos n (x :: xs) := by simp only [clos]; exact ⟨a, b⟩
theorem clo_tup {n : Nat} {xs : List D} (h : clos n xs) : clo n (.tup xs) := by simpa [clo] using h
theorem clo_rol {n : Nat} {xs : List D} (h : clos n xs) : clo n (.rol xs) := by simpa [clo] using h
theorem clos_map {α : Type} {n : Nat} {f : α → D} {l : List α} (h : ∀ a ∈ l, clo n (f a)) : clos n (l.map f) := by
  rw [clos_iff]
  intro x hx
  obtain ⟨a, ha, rfl⟩ := List.mem_map.mp hx
  exact h a ha
mutual
theorem clo_up {n m : Nat} (hm : n ≤ m) : ∀ {d : D}, clo n d → clo m d
  | .non, _ => by simp [clo]
  | .bl _, _ => by simp [clo]
  | .int _, _ => by simp [clo]
  | .str _, _ => by simp [clo]
  | .ty _, _ => by simp [clo]
  | .tup xs, h => by simp only [clo] at h ⊢; exact clos_up hm h
  | .rol xs, h => by simp only [clo] at h ⊢; exact clos_up hm h
  | .scr xs, h => by simp only [clo] at h ⊢; exact clos_up hm h
  | .rod _ xs, h => by simp only [clo] at h ⊢; exact clos_up hm h
  | .rdT _ xs, h => by simp only [clo] at h ⊢; exact clos_up hm h
  | .exc _, _ => by simp [clo]
  | .ref i, h => by simp only [clo] at h ⊢; omega
theorem clos_up {n m : Nat} (hm : n ≤ m) : ∀ {xs : List D}, clos n xs → clos m xs
  | [], _ => by simp [clos]
  | x :: xs, h => by simp only [clos] at h ⊢; exact ⟨clo_up hm h.1, clos_up hm h.2⟩
end
theorem cloO_up {n m : Nat} (hm : n ≤ m) {o : O} (h : cloO n o) : cloO m o := by
  cases o with
  | lst xs => exact clos_up hm h
  | dK kvs => exact clos_up hm h
  | dT kvs => exact clos_up hm h
theorem optL_id {α : Type} {f : α → Option α} : ∀ {xs : List α}, (∀ x ∈ xs, f x = some x) → optL f xs = some xs
  | [], _ => rfl
  | x :: xs, h => by
    unfold optL
    rw [h x List.mem_cons_self, optL_id fun y hy => h y (List.mem_cons_of_mem _ hy)]
theorem frzD_clo {n k : Nat} {h : Hd} {d : D} (c : clo n d) : frzD n h (k + 1) d = some d := by unfold frzD; rw [if_pos c]
theorem frzO_clo {n k : Nat} {h : Hd} {o : O} (c : cloO n o) : frzO n h k o = some o := by unfold frzO; rw [if_pos c]
theorem frzD_lst {n k i : Nat} {h : Hd} {xs : List D} (hi : n ≤ i) (e : h[i]? = some (.lst xs)) (c : clos n xs) : frzD n h (k + 2) (.ref i) = some (.rol xs) := by
  unfold frzD
  rw [if_neg (by simp only [clo]; omega)]
  simp only [e]
  rw [optL_id fun x hx => frzD_clo (clos_iff.mp c x hx)]
  rfl
theorem optL_cons {α β : Type} {f : α → Option β} {x : α} {y : β} {xs : List α} {ys : List β} (h : f x = some y) (t : optL f xs = some ys) : optL f (x :: xs) = some (y :: ys) := by unfold optL; rw [h, t]
theorem frzR_of {n : Nat} {d d' : D} {h1 : Hd} (e : frzD n h1 FU d = some d') (c : ∀ o ∈ h1.take n, cloO n o) : frzR n (.ok d h1) = .ok d' (h1.take n) := by
  unfold frzR
  simp only [e]
  rw [optL_id fun o ho => frzO_clo (c o ho)]
theorem frzR_clo {n : Nat} {d : D} {h1 : Hd} (e : clo n d) (c : ∀ o ∈ h1.take n, cloO n o) : frzR n (.ok d h1) = .ok d (h1.take n) := frzR_of (frzD_clo e) c
theorem frzR_lst {n i : Nat} {h1 : Hd} {xs : List D} (hi : n ≤ i) (e : h1[i]? = some (.lst xs)) (cx : clos n xs) (c : ∀ o ∈ h1.take n, cloO n o) : frzR n (.ok (.ref i) h1) = .ok (.rol xs) (h1.take n) := frzR_of (frzD_lst hi e cx) c
theorem z_lst {f : SE} {τ : Sd} {h : Hd} {xs : List D} (e : f τ h = .ok (.ref h.length) (h ++ [.lst xs])) (cx : clos h.length xs) (c : ∀ o ∈ h, cloO h.length o) : sZ f τ h = .ok (.rol xs) h := by
  unfold sZ
  rw [e, frzR_lst (Nat.le_refl _) (by simp) cx (by simpa using c)]
  simp
def Pu (F : SF) (n : Nat) (ds : List D) (d : D) : Prop := ∀ h, sLoc false n F ds h = .ok d h
def Dr (F : SF) (n : Nat) (ds : List D) (o : O) (d : D) (o' : O) : Prop := ∀ p h, h[p]? = some o → sLoc false n F (.ref p :: ds) h = .ok d (h.set p o')
theorem pins_clo : ∀ {ds : List D}, (∀ d ∈ ds, clo 0 d) → pinsD ds = [] ∧ renum 0 ds = ds ∧ ∀ k, renum k ds = ds
  | [], _ => ⟨rfl, rfl, fun _ => rfl⟩
  | d :: ds, h => by
    obtain ⟨a, b, c⟩ := pins_clo (ds := ds) fun x hx => h x (List.mem_cons_of_mem _ hx)
    have hd := h d List.mem_cons_self
    have nr : refOf d = none := by cases d <;> first | rfl | (simp only [clo] at hd; omega)
    refine ⟨?_, ?_, fun k => ?_⟩
    · simpa [pinsD, nr] using a
    · cases d <;> first | (simp only [clo] at hd; omega) | (simp only [renum, b])
    · cases d <;> first | (simp only [clo] at hd; omega) | (simp only [renum, c])
theorem Pu.of {F : SF} {n : Nat} {ds : List D} {r : R D} {d : D} (hn : ds.length = n) (cd : ∀ x ∈ ds, clo 0 x) (e : F ds [] = r) (z : frzR 0 r = .ok d []) (c : clo 0 d) : Pu F n ds d := fun h => by
  obtain ⟨p1, p2, _⟩ := pins_clo cd
  unfold sLoc
  rw [if_pos hn]
  unfold locR
  rw [p1]
  simp only [optL, List.length_nil, Bool.false_eq_true, if_false]
  rw [if_pos ⟨List.nodup_nil, fun x hx => .inl (cd x hx), fun o ho => by simp at ho⟩, p2, e, z]
  simp [c, setAll]
theorem Dr.of {F : SF} {n : Nat} {ds : List D} {o o' : O} {r : R D} {d : D} (hn : ds.length + 1 = n) (cd : ∀ x ∈ ds, clo 0 x) (co : cloO 0 o) (e : F (.ref 0 :: ds) [o] = r) (z : frzR 1 r = .ok d [o']) (c : clo 0 d) (co' : cloO 0 o') : Dr F n ds o d o' := fun p h hp => by
  obtain ⟨p1, _, p3⟩ := pins_clo cd
  have e1 : pinsD (.ref p :: ds) = [p] := by
    have : pinsD (.ref p :: ds) = p :: pinsD ds := rfl
    rw [this, p1]
  have e2 : renum 0 (.ref p :: ds) = .ref 0 :: ds := by
    have : renum 0 (.ref p :: ds) = .ref 0 :: renum 1 ds := rfl
    rw [this, p3]
  unfold sLoc
  rw [if_pos (by simpa using hn)]
  unfold locR
  rw [e1]
  simp only [optL, hp, List.length_singleton, Bool.false_eq_true, if_false]
  have all : ∀ x ∈ (D.ref p :: ds), clo 0 x ∨ isRef x := fun x hx => by
    rcases List.mem_cons.mp hx with rfl | hx
    · exact .inr ⟨p, rfl⟩
    · exact .inl (cd x hx)
  rw [if_pos ⟨by simp, all, fun u hu => by rw [List.mem_singleton.mp hu]; exact co⟩, e2, e, z]
  simp [c, co', setAll]
theorem new_of {F : SF} {n i : Nat} {ds : List D} {o : O} {h1 : Hd} (hn : ds.length = n) (cd : ∀ x ∈ ds, clo 0 x) (e : F ds [] = .ok (.ref i) h1) (ho : h1[i]? = some o) (co : cloO 0 o) (h : Hd) : sLoc true n F ds h = .ok (.ref h.length) (h ++ [o]) := by
  obtain ⟨p1, p2, _⟩ := pins_clo cd
  unfold sLoc
  rw [if_pos hn]
  unfold locR
  rw [p1]
  simp only [optL, List.length_nil, if_true]
  rw [if_pos ⟨List.nodup_nil, fun x hx => .inl (cd x hx), fun o ho => by simp at ho⟩, p2, e]
  unfold frzM
  simp only [ho]
  rw [if_pos ⟨Nat.zero_le _, co, by simp⟩]
  simp [co, setAll]
theorem forT_nil (g : SG) (b : SS) (τ : Sd) (h : Hd) : forL (fun _ => True) g b [] τ h = .nx τ h := by rw [forL, if_pos True.intro]
def trn (r : Fl) (k : Sd → Hd → Fl) : Fl := match r with | .nx τ h => k τ h | .ct τ h => k τ h | .bk τ h => .nx τ h | r => r
theorem forT_cons (g : SG) (b : SS) (x : D) (xs : List D) (τ τ1 : Sd) (h h1 : Hd) (e : g x τ h = .nx τ1 h1) : forL (fun _ => True) g b (x :: xs) τ h = trn (b τ1 h1) (forL (fun _ => True) g b xs) := by
  rw [forL, if_pos True.intro, e]
  dsimp only
  unfold trn
  cases b τ1 h1 <;> rfl
theorem trn_nx (τ : Sd) (h : Hd) (k : Sd → Hd → Fl) : trn (.nx τ h) k = k τ h := rfl
theorem trn_rt (d : D) (h : Hd) (k : Sd → Hd → Fl) : trn (.rt d h) k = .rt d h := rfl
theorem forT_inv {g : SG} {b : SS} {α : Type} (f : α → D) (I : List α → Sd → Hd → Prop) (Rt : D → Hd → Prop) : ∀ (xs pre : List α) (τ : Sd) (h : Hd),
    (∀ pre' x post τ h, pre ++ xs = pre' ++ x :: post → I pre' τ h → ∃ τ1 h1, g (f x) τ h = .nx τ1 h1 ∧ ((∃ τ2 h2, b τ1 h1 = .nx τ2 h2 ∧ I (pre' ++ [x]) τ2 h2) ∨ ∃ d h2, b τ1 h1 = .rt d h2 ∧ Rt d h2)) → I pre τ h →
    (∃ τ' h', forL (fun _ => True) g b (xs.map f) τ h = .nx τ' h' ∧ I (pre ++ xs) τ' h') ∨ ∃ d h', forL (fun _ => True) g b (xs.map f) τ h = .rt d h' ∧ Rt d h'
  | [], pre, τ, h, _, i0 => .inl ⟨τ, h, forT_nil .., by simpa using i0⟩
  | x :: xs, pre, τ, h, st, i0 => by
    obtain ⟨τ1, h1, e1, q⟩ := st pre x xs τ h rfl i0
    rw [List.map_cons, forT_cons _ _ _ _ _ _ _ _ e1]
    rcases q with ⟨τ2, h2, e2, i2⟩ | ⟨d, h2, e2, r⟩
    · rw [e2, trn_nx]
      have := forT_inv f I Rt xs (pre ++ [x]) τ2 h2 (fun pre' y post τ h e => st pre' y post τ h (by simpa using e)) i2
      simpa using this
    · rw [e2, trn_rt]
      exact .inr ⟨d, h2, rfl, r⟩
theorem forT_all {g : SG} {b : SS} {α : Type} (f : α → D) (I : List α → Sd → Hd → Prop) (xs : List α) (τ : Sd) (h : Hd)
    (st : ∀ pre x post τ h, xs = pre ++ x :: post → I pre τ h → ∃ τ1 h1, g (f x) τ h = .nx τ1 h1 ∧ ∃ τ2 h2, b τ1 h1 = .nx τ2 h2 ∧ I (pre ++ [x]) τ2 h2) (i0 : I [] τ h) :
    ∃ τ' h', forL (fun _ => True) g b (xs.map f) τ h = .nx τ' h' ∧ I xs τ' h' := by
  rcases forT_inv f I (fun _ _ => False) xs [] τ h (fun pre' x post τ h e i => let ⟨τ1, h1, a, b⟩ := st pre' x post τ h e i; ⟨τ1, h1, a, .inl b⟩) i0 with ⟨τ', h', a, b⟩ | ⟨_, _, _, z⟩
  · exact ⟨τ', h', a, b⟩
  · exact z.elim
theorem mapT_all {f : D → Hd → R D} {α : Type} (g : α → D) (I : List α → List D → Hd → Prop) : ∀ (xs pre : List α) (ys : List D) (h : Hd),
    (∀ pre' x post ys h, pre ++ xs = pre' ++ x :: post → I pre' ys h → ∃ y h', f (g x) h = .ok y h' ∧ I (pre' ++ [x]) (ys ++ [y]) h') → I pre ys h → ∃ zs h', mapR (fun _ => True) f (xs.map g) h = .ok zs h' ∧ I (pre ++ xs) (ys ++ zs) h'
  | [], pre, ys, h, _, i0 => ⟨[], h, by rw [List.map_nil, mapR, if_pos True.intro], by simpa using i0⟩
  | x :: xs, pre, ys, h, st, i0 => by
    obtain ⟨y, h1, e1, i1⟩ := st pre x xs ys h rfl i0
    obtain ⟨zs, h', e2, i2⟩ := mapT_all g I xs (pre ++ [x]) (ys ++ [y]) h1 (fun pre' z post ys h e => st pre' z post ys h (by simpa using e)) i1
    refine ⟨y :: zs, h', ?_, by simpa using i2⟩
    rw [List.map_cons, mapR, if_pos True.intro, e1]
    show (mapR _ f (xs.map g) h1).bind _ = _
    rw [e2]; rfl
theorem mapT_pure {f : D → Hd → R D} {α : Type} (g F : α → D) {h : Hd} : ∀ {xs : List α}, (∀ x ∈ xs, f (g x) h = .ok (F x) h) → mapR (fun _ => True) f (xs.map g) h = .ok (xs.map F) h
  | [], _ => by rw [List.map_nil, mapR, if_pos True.intro]; rfl
  | x :: xs, st => by
    rw [List.map_cons, mapR, if_pos True.intro, st x List.mem_cons_self]
    show (mapR _ f (xs.map g) h).bind _ = _
    rw [mapT_pure g F fun y hy => st y (List.mem_cons_of_mem _ hy)]; rfl
theorem mapF_pure {f : D → Hd → R (Option D)} {α : Type} (g : α → D) (F : α → Option D) {h : Hd} : ∀ {xs : List α}, (∀ x ∈ xs, f (g x) h = .ok (F x) h) → mapF (fun _ => True) f (xs.map g) h = .ok (xs.filterMap F) h
  | [], _ => by rw [List.map_nil, mapF, if_pos True.intro]; rfl
  | x :: xs, st => by
    rw [List.map_cons, mapF, if_pos True.intro, st x List.mem_cons_self]
    show (mapF _ f (xs.map g) h).bind _ = _
    rw [mapF_pure g F fun y hy => st y (List.mem_cons_of_mem _ hy)]
    show R.ok ((F x).toList ++ xs.filterMap F) h = _
    cases e : F x <;> simp [List.filterMap_cons, e]
theorem wh_by {c : ST} {f : SS} (I : Nat → Sd → Hd → Prop) (N : Sd → Hd → Prop) (Rt : D → Hd → Prop)
    (st : ∀ m τ h, I m τ h → (∃ h1, c τ h = .ok false h1 ∧ N τ h1) ∨ ∃ h1, c τ h = .ok true h1 ∧ ((∃ τ2 h2 m', f τ h1 = .nx τ2 h2 ∧ m' < m ∧ I m' τ2 h2) ∨ ∃ d h2, f τ h1 = .rt d h2 ∧ Rt d h2)) :
    ∀ (m n : Nat) (τ : Sd) (h : Hd), m < n → I m τ h → (∃ τ' h', sWh c f n τ h = .nx τ' h' ∧ N τ' h') ∨ ∃ d h', sWh c f n τ h = .rt d h' ∧ Rt d h' := by
  intro m
  induction m using Nat.strongRecOn with
  | ind m ih =>
    intro n τ h hn i0
    cases n with
    | zero => omega
    | succ n =>
      rcases st m τ h i0 with ⟨h1, e1, q⟩ | ⟨h1, e1, q⟩
      · exact .inl ⟨τ, h1, by rw [sWh, e1]; rfl, q⟩
      · rcases q with ⟨τ2, h2, m', e2, lt, i2⟩ | ⟨d, h2, e2, r⟩
        · have e3 : sWh c f (n + 1) τ h = sWh c f n τ2 h2 := by
            rw [sWh, e1, fl_ok, if_pos rfl, e2]
          rw [e3]
          exact ih m' lt n τ2 h2 (by omega) i2
        · refine .inr ⟨d, h2, ?_, r⟩
          rw [sWh, e1, fl_ok, if_pos rfl, e2]
end MI
set_option Elab.async false
set_option linter.all false
set_option maxRecDepth 100000
set_option maxHeartbeats 4000000
namespace HND
open PySem PySem.Spec L2 MI
noncomputable def b_law_hand : SS :=
 (sRet (sA gLst (sCons (sZ (sA gList (sCons (sZ (sSl2 (sV 0) oN (oS (sC (.int 63))))) sNil))) (sCons (sC (.int 0)) (sCons (sC (.int 0)) (sCons (sC (.int 7)) (sCons (sC (.int 0)) sNil)))))))
noncomputable def b_law_take : SS :=
 (sSeq (sIf (sT (s2 gLt (sV 1) (sC (.int 2))))
  (sRet (sC (.int 0)))
  sNx)
 (sSeq (sIf (sAnd (sT (s2 hEq (s2 gIx (sV 0) (sC (.int 2))) (sC (.int 0)))) (sT (s2 gLt (s2 gIx (sV 0) (sC (.int 1))) (sA gLen (sCons (s2 gIx (sV 0) (sC (.int 0))) sNil)))))
  (sSeq (sSet 2 (s2 gIx (s2 gIx (sV 0) (sC (.int 0))) (s2 gIx (sV 0) (sC (.int 1)))))
 (sSeq (sAugS gIAdd (sV 0) (sC (.int 1)) (sC (.int 1)))
 (sSeq (sPut (s2 gMod (s2 gAddR (s2 gMulR (s2 gIx (sV 0) (sC (.int 3))) (sC (.int 48271))) (sV 2)) (sC (.int 2147483647))) (sV 0) (sC (.int 3)))
 (sIf (sT (s2 gGe (sA gAbs (sCons (sV 2) sNil)) (s2 gPow (sC (.int 10)) (sC (.int 18)))))
  (sPut (sA gAbs (sCons (sV 2) sNil)) (sV 0) (sC (.int 2)))
  sNx))))
  sNx)
 (sSeq (sIf (sT (s2 gGt (s2 gIx (sV 0) (sC (.int 2))) (sC (.int 0))))
  (sSeq (sSet 3 (s2 gMod (s2 gIx (sV 0) (sC (.int 2))) (sV 1)))
 (sSeq (sPut (s2 gDiv (s2 gIx (sV 0) (sC (.int 2))) (sV 1)) (sV 0) (sC (.int 2)))
 (sRet (sV 3))))
  sNx)
 (sSeq (sAugS gIAdd (sV 0) (sC (.int 4)) (sC (.int 1)))
 (sRet (s2 gMod (s2 gDiv (s2 gMod (s2 gPow (s2 gAddR (s2 gIx (sV 0) (sC (.int 3))) (s2 gMulR (sC (.int 7368787)) (s2 gIx (sV 0) (sC (.int 4))))) (sC (.int 5))) (sC (.int 2147483647))) (sC (.int 1009))) (sV 1)))))))
noncomputable def b_law_signs : SS :=
 (sSeq (sSet 0 (sC (.str " !\"#$&'()*+,-./0123456789:;<=>?@ABCDEFGHIJKLMNOPQRSTUVWXYZ[\\]^_`")))
 (sRet (s2 gAddR (sV 0) (sC (.str "abcdefghijklmnopqrstuvwxyz{|}~\n")))))
noncomputable def b_law_tongue_L0 (F_law_signs : SF) (F_law_take : SF) : SS :=
 (sSeq (sSet 4 (sA (sLoc false 2 F_law_take) (sCons (sV 0) (sCons (sA gLen (sCons (sV 1) sNil)) sNil))))
 (sSeq (sSet 2 (s2 gAddR (sV 2) (s2 gIx (sV 1) (sV 4))))
 (sSet 1 (s2 gAddR (sSl2 (sV 1) oN (oS (sV 4))) (sSl2 (sV 1) (oS (s2 gAddR (sV 4) (sC (.int 1)))) oN)))))
noncomputable def b_law_tongue (F_law_signs : SF) (F_law_take : SF) : SS :=
 (sSeq (sSet 1 (sA (sLoc false 0 F_law_signs) sNil))
 (sSeq (sSet 2 (sC (.str "")))
 (sSeq (sFor (sRg gRng1 (sCons (s2 gAddR (sC (.int 1)) (sA (sLoc false 2 F_law_take) (sCons (sV 0) (sCons (sC (.int 6)) sNil)))) sNil)) (kN 3) (b_law_tongue_L0 F_law_signs F_law_take))
 (sRet (sV 2)))))
noncomputable def b_law_goes_C0 (F_law_take : SF) : SE :=
 (sA gTup (sCons (sC (.int 0)) (sCons (sV 0) sNil)))
noncomputable def b_law_goes_C1 (F_law_take : SF) : SE :=
 (sA gTup (sCons (sV 1) (sCons (sV 0) sNil)))
noncomputable def b_law_goes_L2 (F_law_take : SF) : SS :=
 (sSeq (sSet 7 (s2 gSub (s2 gSub (sA gLen (sCons (sV 4) sNil)) (sC (.int 1))) (sA (sLoc false 2 F_law_take) (sCons (sV 0) (sCons (sV 1) sNil)))))
 (sSeq (sIf (sT (s2 hEq (sV 3) (sC (.int 0))))
  (sSet 7 (sA (sLoc false 2 F_law_take) (sCons (sV 0) (sCons (sA gLen (sCons (sV 4) sNil)) sNil))))
  sNx)
 (sSeq (sAsg (sML gPopAt (sV 4) (sCons (sV 7) sNil)) (kTup 2 (kCons (kN 8) (kCons (kN 9) kNil))))
 (sSeq (sPut (sV 6) (s2 gIx (sV 5) (sV 8)) (sV 9))
 (sSeq (sDrop (sML gApp (sV 5) (sCons (s2 gMulR (sZ (sA gLst (sCons (sC (.int 0)) sNil))) (sV 1)) sNil)))
 (sDrop (sML gExtR (sV 4) (sCons (sZ (sComp (sRg gRng1 (sCons (sV 1) sNil)) t1 (b_law_goes_C1 F_law_take) [6])) sNil))))))))
noncomputable def b_law_goes_L3 (F_law_take : SF) : SS :=
 (sPut (sA (sLoc false 2 F_law_take) (sCons (sV 0) (sCons (sV 2) sNil))) (s2 gIx (sV 5) (sV 8)) (sV 9))
noncomputable def b_law_goes (F_law_take : SF) : SS :=
 (sSeq (sSet 3 (sA (sLoc false 2 F_law_take) (sCons (sV 0) (sCons (sC (.int 2)) sNil))))
 (sSeq (sSet 4 (sComp (sRg gRng1 (sCons (sV 1) sNil)) t1 (b_law_goes_C0 F_law_take) []))
 (sSeq (sSet 5 (sA gLst (sCons (s2 gMulR (sZ (sA gLst (sCons (sC (.int 0)) sNil))) (sV 1)) sNil)))
 (sSeq (sFor (sRg gRng2 (sCons (sC (.int 1)) (sCons (sV 2) sNil))) (kN 6) (b_law_goes_L2 F_law_take))
 (sSeq (sFor (sIt (sV 4)) (kTup 2 (kCons (kN 8) (kCons (kN 9) kNil))) (b_law_goes_L3 F_law_take))
 (sRet (sV 5)))))))
noncomputable def b_law_kinds_L0 (F_law_take : SF) : SS :=
 (sSeq (sSet 5 (s2 gSub (sA (sLoc false 2 F_law_take) (sCons (sV 0) (sCons (sC (.int 7)) sNil))) (sC (.int 1))))
 (sSeq (sIf (sT (s2 hEq (sV 2) (sC (.int 1))))
  (sSet 5 (s2 gDiv (sV 5) (sC (.int 5))))
  sNx)
 (sSeq (sIf (sAnd (sT (s2 hEq (sV 2) (sC (.int 2)))) (sT (s2 gGt (sA (sLoc false 2 F_law_take) (sCons (sV 0) (sCons (sC (.int 3)) sNil))) (sC (.int 0)))))
  (sSet 5 (s1 gNeg (sC (.int 1))))
  sNx)
 (sDrop (sML gApp (sV 3) (sCons (sV 5) sNil))))))
noncomputable def b_law_kinds (F_law_take : SF) : SS :=
 (sSeq (sSet 2 (sA (sLoc false 2 F_law_take) (sCons (sV 0) (sCons (sC (.int 3)) sNil))))
 (sSeq (sSet 3 (sA gLst (sCons (s1 gNeg (sC (.int 1))) sNil)))
 (sSeq (sFor (sRg gRng2 (sCons (sC (.int 1)) (sCons (sV 1) sNil))) (kN 4) (b_law_kinds_L0 F_law_take))
 (sRet (sV 3)))))
noncomputable def b_law_shuffled_W0 (F_law_take : SF) : ST :=
 (sT (s2 gGt (sA gLen (sCons (sV 3) sNil)) (sC (.int 0))))
noncomputable def b_law_shuffled_L1 (F_law_take : SF) : SS :=
 (sDrop (sML gApp (sV 4) (sCons (sML gPopAt (sV 3) (sCons (sA (sLoc false 2 F_law_take) (sCons (sV 0) (sCons (sA gLen (sCons (sV 3) sNil)) sNil))) sNil)) sNil)))
noncomputable def b_law_shuffled_C2 (F_law_take : SF) : SE :=
 (sA gTup sNil)
noncomputable def b_law_shuffled_C3 (F_law_take : SF) : SE :=
 (s1 gNeg (sC (.int 1)))
noncomputable def b_law_shuffled_C4 (F_law_take : SF) : SE :=
 (s2 gIx (sV 1) (sV 0))
noncomputable def b_law_shuffled_L5 (F_law_take : SF) : SS :=
 (sSeq (sPut (sA gTuple (sCons (sZ (sComp (sIt (sV 8)) t1 (b_law_shuffled_C4 F_law_take) [4])) sNil)) (sV 5) (s2 gIx (sV 4) (sV 7)))
 (sPut (s2 gIx (sV 2) (sV 7)) (sV 6) (s2 gIx (sV 4) (sV 7))))
noncomputable def b_law_shuffled (F_law_take : SF) : SS :=
 (sSeq (sSet 3 (sA gLRng2 (sCons (sC (.int 1)) (sCons (sA gLen (sCons (sV 1) sNil)) sNil))))
 (sSeq (sSet 4 (sA gLst (sCons (sC (.int 0)) sNil)))
 (sSeq (sWh (b_law_shuffled_W0 F_law_take) (b_law_shuffled_L1 F_law_take) 100000)
 (sSeq (sSet 5 (sComp (sIt (sV 1)) t1 (b_law_shuffled_C2 F_law_take) []))
 (sSeq (sSet 6 (sComp (sIt (sV 1)) t1 (b_law_shuffled_C3 F_law_take) []))
 (sSeq (sFor (sEnum (sV 1)) (kTup 2 (kCons (kN 7) (kCons (kN 8) kNil))) (b_law_shuffled_L5 F_law_take))
 (sRet (sA gTup (sCons (sA gTuple (sCons (sV 5) sNil)) (sCons (sA gTuple (sCons (sV 6) sNil)) sNil))))))))))
noncomputable def b_law_table (F_law_goes : SF) (F_law_kinds : SF) (F_law_shuffled : SF) (F_law_take : SF) (F_law_tongue : SF) : SS :=
 (sSeq (sSet 1 (sA (sLoc false 1 F_law_tongue) (sCons (sV 0) sNil)))
 (sSeq (sSet 2 (s2 gAddR (sC (.int 1)) (sA (sLoc false 2 F_law_take) (sCons (sV 0) (sCons (sC (.int 6)) sNil)))))
 (sSeq (sIf (sT (s2 hEq (sA (sLoc false 2 F_law_take) (sCons (sV 0) (sCons (sC (.int 4)) sNil))) (sC (.int 0))))
  (sSet 2 (s2 gAddR (sC (.int 1)) (sA (sLoc false 2 F_law_take) (sCons (sV 0) (sCons (sC (.int 32)) sNil)))))
  sNx)
 (sSeq (sAsg (sA (sLoc false 3 F_law_shuffled) (sCons (sV 0) (sCons (sA (sLoc false 3 F_law_goes) (sCons (sV 0) (sCons (sA gLen (sCons (sV 1) sNil)) (sCons (sV 2) sNil)))) (sCons (sA (sLoc false 2 F_law_kinds) (sCons (sV 0) (sCons (sV 2) sNil))) sNil)))) (kTup 2 (kCons (kN 3) (kCons (kN 4) kNil))))
 (sRet (sA gTup (sCons (sV 1) (sCons (sV 3) (sCons (sV 4) sNil)))))))))
end HND
set_option Elab.async false
set_option linter.all false
set_option maxRecDepth 100000
set_option maxHeartbeats 4000000
namespace MI
open PySem PySem.Spec L2
section
variable {X : Cx} {E : XD} {e : Expr} {fa : SE} {pos p : Pos} {a : Addr} {kvs : List (Str × Str)} {x : Str}
end
end MI
set_option Elab.async false
set_option linter.all false
set_option maxRecDepth 100000
set_option maxHeartbeats 4000000
namespace MI
open PySem PySem.Spec L2
mutual
def toPy : D → Option PyData
  | .non => some .none
  | .bl b => some (.bool b)
  | .int i => some (.int i)
  | .str x => some (.str x)
  | .tup xs => (toPys xs).map .tuple
  | .rol xs => (toPys xs).map .list
  | .rod [] [] => some (.dict [])
  | _ => none
def toPys : List D → Option (List PyData)
  | [] => some []
  | x :: xs => match toPy x, toPys xs with | some p, some ps => some (p :: ps) | _, _ => none
end
mutual
def noL : D → Bool
  | .rol _ => false
  | .tup xs => noLs xs
  | _ => true
def noLs : List D → Bool
  | [] => true
  | x :: xs => noL x && noLs xs
end
section
variable {P : Program} {w : World} {K : PySem.W.Frag} {ι : List Addr} {H : Hp} {h : Heap}
end
def okR (d : D) (p : PyData) : Prop := (p.hasDict = true → noL d = true) ∧ p.showable = true ∧ p.depth ≤ 60 ∧ p.shown.length ≤ sizeLine
open Classical in
noncomputable def gRepr : List D → Hd → R D
  | [x], h => (match toPy x with | some p => if okR x p then .ok (.str p.shown) h else .no | none => .no)
  | _, _ => .no
theorem call_isinstD {X : Cx} : CallR X (.builtin "isinstance") (fun xs H Q => ∃ a o us T b, xs = [.ref a, .ty T] ∧ H a = some (.frz o (.dK us)) ∧ PySem.W.kitOne X.K (.type "dict") (.type T) = some b ∧ Q (.bl b) H) := by
  intro pins s σ H xs us Q I r h
  obtain ⟨a, o, kv, T, b, rfl, ea, e, q⟩ := h
  obtain ⟨u, w', rfl, rx, rt⟩ := vals2 r
  cases rt
  obtain rfl : u = Value.ref a := rx
  obtain ⟨_, _, _, vs, _, p⟩ := (show ObjOk X.prog X.w H s.heap a (.frz o (.dK kv)) from I.hok a _ ea)
  obtain ⟨o', es, ep, h1, h2, _⟩ := p
  exact PySem.W.kia_one PySem.W.kitx_dict I.kIn ⟨o', h1, h2.1⟩ e (fun z => nomatch z) fun tk => ⟨.bl b, H, I.tok tk, rfl, q⟩
def gIsiR : List D → Hd → R D
  | [.rod ks xs, .ty T], h => (match subT "dict" T with | some b => .ok (.bl b) h | none => .no)
  | ds, h => gIsi ds h
theorem snd_isiR {K : PySem.W.Frag} : SndL K gIsiR (fun xs H Q => (∃ x T t b, xs = [x, .ty T] ∧ TyOf K H x t ∧ PySem.W.kitOne K t (.type T) = some b ∧ Q (.bl b) H) ∨ ∃ a o us T b, xs = [.ref a, .ty T] ∧ H a = some (.frz o (.dK us)) ∧ PySem.W.kitOne K (.type "dict") (.type T) = some b ∧ Q (.bl b) H) := by
  intro E ι H h xs ds Q r hr o
  unfold gIsiR at o
  split at o
  · split at o
    · rename_i b hb
      cases r with
      | cons r1 rs =>
        cases rs with
        | cons r2 rs2 =>
          cases rs2
          cases r2
          cases r1 with
          | rod hp ek rr => exact .inr ⟨_, _, _, _, b, rfl, hp, subT_ok hb, ans o (.bl _) hr⟩
    · exact o.elim
  · exact .inl (snd_isi E ι H h xs _ Q r hr o)
end MI
set_option Elab.async false
set_option linter.all false
set_option maxRecDepth 100000
set_option maxHeartbeats 4000000
namespace TPM
open PySem PySem.Spec PySem.W L2 HT MI PyProof.Rows
end TPM
namespace MI
open PySem PySem.Spec L2 TPM
end MI
set_option Elab.async false
set_option linter.all false
set_option maxRecDepth 100000
set_option maxHeartbeats 4000000
namespace L2
open PySem PySem.Spec PySem.W PyProof.Rows
structure Air (stack : List Env) (H : Hp) (h0 B : Heap) (a C : Addr) (t : Value) (h : Heap) : Prop where
  fly : Heap.FlyingW B stack a (.ref C) t h
  bk : ∀ b o, h.get? b = some o → b ∉ frs stack → (H b ≠ none ∨ ∃ o0, h0.get? b = some o0) → B.get? b = some o
def CXE (P : Program) (w : World) : CXT := fun outer H s E e s' =>
  ∃ a C t B H', e = .ref a ∧ s'.os = s.os ∧ AllBare s'.gens ∧ Un (frs outer) [] H H' s.heap s'.heap ∧ HOk P w H' s'.heap ∧ Air outer H' s.heap B a C t s'.heap ∧ E (.ref C) none H'
section
variable {P : Program} {w : World} {H H' : Hp} {h h' : Heap}
theorem HOk.is (x : HOk P w H h) {a : Addr} {o : HO} (e : H a = some o) : ∃ ob, h.get? a = some ob := by
  have := x a o e
  cases o with
  | lst xs => obtain ⟨_, _, _, _, e⟩ := this; exact ⟨_, e⟩
  | tup xs => obtain ⟨_, _, _, ob, e, _⟩ := this; exact ⟨_, e⟩
  | dK kvs => obtain ⟨_, _, _, _, o, _, _, e, _⟩ := this; exact ⟨_, e⟩
  | dT kvs => obtain ⟨_, _, _, _, o, _, _, e, _⟩ := this; exact ⟨_, e⟩
  | set S n => obtain ⟨o, _, _, _, e, _⟩ := this; exact ⟨_, e⟩
  | ins C dx fs => obtain ⟨_, _, _, e, _⟩ := this; exact ⟨_, e⟩
  | own y => exact this
  | xd fs => obtain ⟨_, ⟨_, _, _, e, _⟩, _⟩ := this; exact ⟨_, e⟩
  | rng lo hi => obtain ⟨_, _, _, e⟩ := this; exact ⟨_, e⟩
  | frz ob u => exact ⟨_, this.1⟩
  | tbl ps => exact ⟨_, this⟩
  | met f y => exact ⟨_, this⟩
  | ext φ => exact this.2.1
theorem HOk.track (x : HOk P w H h) (k : ∀ b u, H b ≠ none → h.get? b = some u → h'.get? b = some u) : HOk P w H h' := fun a o e =>
  (x a o e).stay (fun b u hb q => k b u (by
    rcases hb with rfl | hb
    · rw [e]; simp
    · rw [hb]; simp) q) (fun _ q => q) fun _ _ q => q
end
section
variable {P : Program} {w : World} {K : PySem.W.Frag} {mg : Str → Option Value} {base : Heap} {N : List Str} {qual : Str} {scope : Scope} {f : Addr} {cd : Value} {A : Around} {outer : List Env} {s0 : Shared} {H0 : Hp} {E : XK} {pins : List (Addr × Obj)} {σ : St} {H : Hp} {s : Shared}
abbrev cxE (P : Program) (w : World) (K : PySem.W.Frag) (mg : Str → Option Value) (base : Heap) (N : List Str) (qual : Str) (scope : Scope) (f : Addr) (cd : Value) (A : Around) (outer : List Env) (s : Shared) (H : Hp) (E : XK) : Cx := cxOf (CXE P w) P w K mg base N qual scope f cd A outer s H E
theorem air_left {B : Heap} {a C : Addr} {t : Value} {h1 h2 : Heap} (I : Inv (cxE P w K mg base N qual scope f cd A outer s0 H0 E) pins σ H { s with heap := h1 }) (hB : ∀ b o, h1.get? b = some o → b ∉ frs (envOfC qual scope s0.heap.objs.size f cd :: outer) → (H b ≠ none ∨ ∃ o0, s0.heap.get? b = some o0) → B.get? b = some o)
    (sl : ∀ b o, h1.get? b = some o → b ∈ frs outer → ∃ sl, h2.get? b = some { o with slots := sl }) (fly : Heap.FlyingW B outer a (.ref C) t h2) (e : E (.ref C) none H) : CXE P w outer H0 s0 E (.ref a) { s with heap := h2 } := by
  have lo : ∀ b, b ∈ frs (envOfC qual scope s0.heap.objs.size f cd :: outer) → b = s0.heap.objs.size ∨ b ∈ frs outer := fun b hb => by
    unfold frs at hb ⊢
    rw [List.filterMap_cons] at hb
    rcases List.mem_cons.mp hb with rfl | hb
    · exact .inl rfl
    · exact .inr hb
  have stk : ∀ b, b ∈ frs (envOfC qual scope s0.heap.objs.size f cd :: outer) → H b = none := fun b hb => I.stkFree b hb
  have old : ∀ b o, s0.heap.get? b = some o → b ∉ frs outer → b ∉ frs (envOfC qual scope s0.heap.objs.size f cd :: outer) := fun b o q n z => by
    rcases lo b z with rfl | z
    · exact absurd (Heap.lt_size q) (Nat.lt_irrefl _)
    · exact n z
  have tr : ∀ b u, H b ≠ none → h1.get? b = some u → h2.get? b = some u := fun b u hn q => fly.1 _ _ (hB b u q (fun z => hn (stk b z)) (.inl hn))
  have ba := I.base
  refine ⟨a, C, t, B, H, rfl, I.os, I.bare, ⟨?_, ?_, ba.free, ?_, ba.tups, ba.frzs, ba.tbls⟩, I.hok.track tr, ⟨fly, ?_⟩, e⟩
  · intro b o q n hf hx
    exact fly.1 _ _ (hB b o (ba.keep b o q n hf hx) (old b o q hf) (.inr ⟨o, q⟩))
  · intro b o q n hf hx
    obtain ⟨s1, q1⟩ := ba.slot b o q n hf hx
    obtain ⟨s2, q2⟩ := sl b _ q1 hf
    exact ⟨s2, q2⟩
  · intro b o q hx
    obtain ⟨o1, q1⟩ := ba.there b o q hx
    by_cases hf : b ∈ frs outer
    · obtain ⟨s2, q2⟩ := sl b _ q1 hf
      exact ⟨_, q2⟩
    · exact ⟨_, fly.1 _ _ (hB b o1 q1 (old b o q hf) (.inr ⟨o, q⟩))⟩
  · intro b o q nf c
    have hh : b ∉ frs (envOfC qual scope s0.heap.objs.size f cd :: outer) := fun z => by
      rcases c with c | ⟨o0, c⟩
      · exact c (stk b z)
      · exact old b o0 c nf z
    obtain ⟨o1, q1⟩ : ∃ o1, h1.get? b = some o1 := by
      rcases c with c | ⟨o0, c⟩
      · cases e1 : H b with
        | none => exact absurd e1 c
        | some u => exact I.hok.is e1
      · exact ba.there b o0 c (by intro z; cases z)
    have q2 := hB b o1 q1 hh c
    have q3 := fly.1 _ _ q2
    rw [q3] at q
    cases q
    exact q2
theorem frm_dat {X : Cx} {pins : List (Addr × Obj)} {σ : St} {H : Hp} {s : Shared} (I : Inv X pins σ H s) {b : Addr} {o : Obj} (hb : b ∈ frs X.stack) (q : s.heap.get? b = some o) : ∀ vs, o.data ≠ .fields vs := by
  obtain ⟨_, o1, q1, d⟩ := I.stack.mem hb
  rw [q] at q1
  cases q1
  exact d
theorem passE {E' : XK} (hE : ∀ C H, E' (.ref C) none H → E (.ref C) none H) : Passes (CXE P w) (cxE P w K mg base N qual scope f cd A outer s0 H0 E) E' := by
  rintro pins σ H s e s' I ⟨a, C, t, B, H', rfl, os, bare, un, hok, air, e⟩
  have I2 : Inv (cxE P w K mg base N qual scope f cd A outer s0 H0 E) pins σ H' s' := I.call' os un hok bare (by intro b z; cases z)
  have hin : ∀ b, b ∈ frs outer → b ∈ frs (envOfC qual scope s0.heap.objs.size f cd :: outer) := fun b hb => by
    unfold frs at hb ⊢
    rw [List.filterMap_cons]
    exact List.mem_cons_of_mem _ hb
  refine wpAny_leaves_onW (base := B) I.ok.frames (L := s0.heap.objs.size) rfl air.fly fun h2 fl up => ?_
  refine air_left (h1 := s'.heap) I2 (fun b o q nf c => air.bk b o q nf ?_) (fun b o q hb => up b o q (frm_dat I2 (hin b hb) q)) fl (hE _ _ e)
  rcases c with c | ⟨o0, c⟩
  · exact .inl c
  · exact .inr (I.base.there b o0 c (by intro z; cases z))
theorem madeE {h' : Heap} {a C : Addr} {args : List Value} (I : Inv (cxE P w K mg base N qual scope f cd A outer s0 H0 E) pins σ H s) (mk : Heap.MadeExcOf s.heap h' a (.ref C) args) (e : E (.ref C) none H) : (cxE P w K mg base N qual scope f cd A outer s0 H0 E).xe (.ref a) { s with heap := h' } := by
  have hin : ∀ b, b ∈ frs outer → b ∈ frs (envOfC qual scope s0.heap.objs.size f cd :: outer) := fun b hb => by
    unfold frs at hb ⊢
    rw [List.filterMap_cons]
    exact List.mem_cons_of_mem _ hb
  have st := I.stack
  refine wpAny_leaves_madeW (base := hideAll s.heap (frs (envOfC qual scope s0.heap.objs.size f cd :: outer))) (h := s.heap) I.ok.frames (L := s0.heap.objs.size) rfl (fun b o q => of_hideAll _ q) (funFrames_hide st fun env he b hb => List.mem_filterMap.mpr ⟨env, he, hb⟩) mk fun h2 t fl tu bt up => ?_
  exact air_left (h1 := s.heap) I (fun b o q nf _ => hideAll_get _ q nf) (fun b o q hb => up b o (mk.keeps b o q) (frm_dat I (hin b hb) q)) fl e
end
structure XCls (K : PySem.W.Frag) (C : Addr) : Prop where
  obj : ∃ (nm q : Str) (N : Addr) (bs bm : List Value) (hdct : Bool) (sn : List Str) (sub : List Value) (ab : Bool) (col : Option Bool) (dd : Option Addr) (k0 k1 k2 k3 k5 : Option Value),
    K.lookup C = some (excClassObj nm q C N bs bm hdct sn sub ab col dd k0 k1 k2 k3 k5 "ValueError.__new__") ∧ nsOkIn K N = true ∧ nsIn K N "__init__" = some none ∧ tailIn K [.type "ValueError", .type "Exception", .type "BaseException", .type "object"] bm = true
def tRaise (t : TA) (Ex : Hp → Prop) : TS := fun _ σ H => t σ H fun vs H1 => vs.length ≤ sizeLine ∧ Ex H1
section
variable {X : Cx} {C : Addr} {x : Str} {np cpos pos : Pos} {e : Expr} {es : List Expr} {t : TA} {Ex : Hp → Prop}
theorem ps_raise (hC : XCls X.K C) (hg : Gl X x) (hm : X.mg x = some (.ref C)) (hc : X.calm = true) (ha : PA X (e :: es) t)
    (lk : ∀ (pins : List (Addr × Obj)) (σ : St) (H : Hp) (s : Shared) (h' : Heap) (a : Addr) (args : List Value), Inv X pins σ H s → Heap.MadeExcOf s.heap h' a (.ref C) args → Ex H → X.xe (.ref a) { s with heap := h' })
    (hdb : (x == ("__debug__" : Str)) = false := by decide) (he : starEach (e :: es) X.env = (false, eval e X.env) :: starEach es X.env := by rfl) (hpl : (backTo cpos (starEach es X.env)).any (·.1) = false := by rfl) :
    PS X (.Raise (some (.Call (.Name x np) (e :: es) [] cpos)) none pos) (tRaise t Ex) := by
  intro pins s σ H D I h
  obtain ⟨nm, q, N, bs, bm, hdct, sn, sub, ab, col, dd, k0, k1, k2, k3, k5, lo, ok, ni, ti⟩ := hC.obj
  refine wpAny_Raise_call_subT (C := C) (nm := nm) (q := q) (N := N) (bs := bs) (bm := bm) (hdct := hdct) (sn := sn) (sub := sub) (ab := ab) (col := col) (dd := dd) (k0 := k0) (k1 := k1) (k2 := k2) (k3 := k3) (k5 := k5)
    PySem.F.excBase_ValueError (mN := X.base.nsMap N) ((tail_of_in I.kIn ti).hasType PySem.F.excBase_ValueError.hasBase) (I.ok.hd hc) (by rw [he]; show (false || (backTo cpos (starEach es X.env)).any (·.1)) = false; rw [hpl]; rfl) (nsMap_none_of_in I.ok.mod.kin ok ni) (ld_glob I hg hm ⟨rfl, ?_⟩ hdb)
  have h2 := ha cpos pins s σ H _ I h
  rw [he] at h2 ⊢
  refine Calls.evalArgs_plain (thn h2 fun us s1 ⟨vs, H1, I1, r, z, ex⟩ => ?_)
  exact ⟨rfl, by rw [← r.length]; exact z, I1.kIn _ _ lo, .keeps (.of_isNs (isNs_of_in I1.ok.mod.kin ok)) I1.bk, tail_of_in I1.kIn ti, fun h' a mk => lk pins σ H1 s1 h' a us I1 mk ex⟩
end
end L2
set_option Elab.async false
set_option linter.all false
set_option maxRecDepth 100000
set_option maxHeartbeats 4000000
namespace L2
open PySem PySem.Spec PySem.W PyProof.Rows Builtin Builtin.ObjectAttr Builtin.Getset_descriptor
section
variable {prog : Program} {w : World} {A : Around} {E : Value → Shared → Prop} {s : Shared} {K : Frag} {x D : Addr} {ox : Obj} {odo : Option Obj}
structure XKit (K : Frag) (D : Addr) : Prop where
  ga : findIn K (.ref D) "__getattribute__" = some (some (.builtin "BaseException.__getattribute__"))
  gn : findIn K (.ref D) "__getattr__" = some none
  cl : (clsIn K D).isSome = true
  ca : findIn K (.ref D) "__class__" = some (some (.builtin "object.__class__"))
  sp : specialIn K (.builtin "object.__class__") "__get__" = some (some (.builtin "getset_descriptor.__get__"))
  tk : takesIn K (.builtin "object.__class__") = some true
  ob : mroIn K D (.type "object") = some true
  be : subIn K (.ref D) (.type "BaseException") = some true
  kc : kitCls K (.ref D) (.ref D) = some true
abbrev ExAt (x D : Addr) (h : Heap) : Prop := ∃ o, h.get? x = some o ∧ o.cls = .ref D
theorem ExAt.ty {M : Model} {h : Heap} (I : ExAt x D h) : Looks M h (typeOf (.ref x)) (.ref D) := by
  obtain ⟨o, q, c⟩ := I
  exact c ▸ (Looks.ld q).andThen .now
theorem exc_get {R : Result → Shared → Prop} {tp : Value} (Z : XKit K D) (X : K.In s.heap) (I : ExAt x D s.heap) (h : R (.ok (.ret (.ref D))) s) : codeAny (model prog w) A (.call (.builtin "getset_descriptor.__get__") ⟨[.builtin "object.__class__", .ref x, tp], []⟩) R s := by
  obtain ⟨hh, g, d, t, os⟩ := s
  have T0 := ExAt.ty (M := model prog w) I
  have T1 := looks_mroIn (M := model prog w) X Z.ob
  refine codeAny_call_builtin KF.slot_gs.plain KF.entry_gs (KF.slot_gs.check _ _ _ _ _ _ _ _ KF.type_class (KF.args_gs _ _ _) ?_); unfold Builtin.«getset_descriptor.__get__» descrGet; rw [dga_obj]
  refine wpAny_bind (wpAny_pure ?_); unfold descrGetter descrCheckInstance descrNameAndClass isInstance; simp only [KF.owner_class]
  repeat lk
  refine ⟨Code.quiet_builtin _ (by decide +kernel), codeAny_builtin KF.entry_class ?_⟩; unfold Builtin.«object.__class__» shownTypeOf
  repeat lk
  exact h
theorem exc_find {M : Model} {h : Heap} (Z : XKit K D) (X : K.In h) : Looks M h (Builtin.ObjectAttr.find (.ref x) (.ref D) "__class__") (.bind (.builtin "getset_descriptor.__get__") (.builtin "object.__class__")) := by
  refine (looks_findIn X Z.ca).andThen (Looks.andThen (a := some (.builtin "getset_descriptor.__get__")) (looks_specialIn X Z.sp) (Looks.andThen (a := some (.builtin "getset_descriptor.__get__", .builtin "object.__class__")) ?_ (Looks.tag .now)))
  exact (looks_takesIn X Z.tk).andThen .now
theorem exc_class {Q : Option Value → Shared → Prop} (Z : XKit K D) (X : K.In s.heap) (I : ExAt x D s.heap) (h : Q (some (.ref D)) { s with toks := s.toks + 1 }) : wpAny (model prog w) A (getAttr? (.ref x) "__class__") Q E s := by
  obtain ⟨hh, g, d, t, os⟩ := s
  have T0 := ExAt.ty (M := model prog w) I
  have T1 := looks_findIn (M := model prog w) X Z.ga
  have T2 := looks_findIn (M := model prog w) X Z.gn
  have T3 := exc_find (M := model prog w) (x := x) Z X
  have T4 : Looks (model prog w) hh (isInstance (.ref x) (.type "BaseException")) true := T0.andThen (looks_subIn X Z.be)
  have f3 := PySem.F.attrBase_ValueError.ga.bind (.ref x)
  have nb : (Value.builtin "BaseException.__getattribute__" == Value.builtin "object.__getattribute__") = false := by decide +kernel
  have nh : (onTheHeap (Value.ref D) && Value.builtin "BaseException.__getattribute__" == Value.builtin "object.__getattribute__") = false := by rw [nb]; rfl
  unfold getAttr? getAttrBy? getAttrBy; refine wpAny_bind (wpAny_mkText (wpAny_bind (wpAny_attempt (wpAny_holding (wpAny_bind (T0.at (wpAny_bind (T1.at ?_)))))))); dsimp only
  rw [nh, if_neg Bool.false_ne_true]
  unfold getAttrByItsOwn
  show wpAny _ _ (typeLookup (.ref D) "__getattr__" >>= fun before => _) _ _ _
  refine wpAny_bind (T2.at (wpAny_bind (wpAny_attempt (wpAny_holding ?_))))
  show wpAny _ _ (boundAndCalled _ _ _) _ _ _
  unfold boundAndCalled
  rw [f3]
  refine wpAny_bind (wpAny_pure (wpAny_call (codeAny_call_builtin PySem.F.attrBase_ValueError.ga.plain PySem.F.entry_bexc_ga ?_)))
  have k1 : builtinKind "BaseException.__getattribute__" = some .slot := by decide +kernel
  have k2 : splitId "BaseException.__getattribute__" = some ("BaseException", "__getattribute__") := by decide +kernel
  have k3 := PySem.F.args_bexc_ga (.ref x) (.str "__class__" t)
  simp only [checkBuiltinCall, k1, k2]
  show wpAny _ _ (isInstance (.ref x) (.type "BaseException") >>= fun b => _) _ _ _
  refine wpAny_bind (T4.at ?_)
  rw [if_neg (by decide)]
  refine wpAny_mono (Q := fun _ s' => s' = ⟨hh, g, d, t + 1, os⟩) (E := fun _ _ => False) ?_ (fun u s' e => ?_) (fun _ _ z => z.elim)
  · repeat (any_goals (first | assumption | rfl | wp_step))
  · subst e
    unfold Builtin.«object.__getattribute__»
    repeat (first | with_reducible refine T0.at ?_ | with_reducible refine T3.at ?_ | wp_step)
    exact exc_get (s := ⟨hh, g, d, t + 1, os⟩) Z X I (wpAny_pure (handed_on rfl (wpAny_pure h)))
theorem XKit.at (Z : XKit K D) : ∃ c o cd sl, K.lookup D = some ⟨c, o, .cls cd, sl⟩ := by
  have := Z.cl
  unfold clsIn at this
  split at this
  · exact ⟨_, _, _, _, ‹_›⟩
  · cases this
theorem XKit.no (Z : XKit K D) {h : Heap} {tp : Addr} {dd : Option Addr} {its : List Value} {n : Nat} {sl : Array (Option Value)} (X : K.In h) (q : h.get? tp = some ⟨.type "tuple", dd, .seq its.toArray n, sl⟩) : (Value.ref D == .ref tp) = false :=
  beq_eq_false_iff_ne.mpr fun e => by
    obtain ⟨_, _, _, _, lo⟩ := Z.at
    rw [Value.ref.inj e] at lo
    have := X _ _ lo
    rw [q] at this
    cases this
theorem kitx_exc (Z : XKit K D) : KitX K (.ref x) (.ref D) (ExAt x D) :=
  ⟨fun _ _ _ I => ExAt.ty I, fun _ _ X _ => (kit_cls X Z.kc).2.1, fun _ _ _ _ _ _ X q => Z.no X q, fun X I q => exc_class Z X I q⟩
end
end L2
set_option Elab.async false
set_option linter.all false
set_option maxRecDepth 100000
set_option maxHeartbeats 4000000
namespace L2
open PySem PySem.Spec PySem.W PyProof.Rows
section
variable {X : Cx} {pins : List (Addr × Obj)} {σ : St} {H H1 H' : Hp} {s s1 s' : Shared}
theorem gone_ok {M : Model} {A : Around} {E : Value → Shared → Prop} {i : Nat} {n : Str} {pos : Pos} {Q : Unit → Shared → Prop} (I : Inv X pins σ H s) (hN : X.N.Nodup) (hi : X.N[i]? = some n) (hk : X.env.scope.names.lookup n = some .local)
    (h : ∀ s', Inv X pins (σ.set i none) H s' → Q () s') : wpAny M A (do bindName X.env n .none; unbindBehindTheSuite X.env n pos) Q E s := by
  obtain ⟨m, hn, hl⟩ := id I.loc
  have hcls : (X.env.scope.kind == .class || (X.env.scope.kind == .module && X.env.locals != X.env.globals)) = false := by rw [I.ok.kind]; rfl
  have cne := I.cne
  obtain ⟨oL, _, _, hoL, _⟩ := id hn
  refine wpAny_nameGoes_keeps hk hn hcls fun h' v hn' hs => h _ ?_
  have far : ∀ b o, X.s₀.heap.get? b = some o → b ≠ X.env.locals := fun b o e => Nat.ne_of_lt (Nat.lt_of_lt_of_le (Heap.lt_size e) I.ok.above)
  refine ⟨I.ok, I.os, I.bare, ⟨fun b o e n hb hx => (hs.2 b (far b o e)).trans (I.base.keep b o e n hb hx), fun b o e n hb hx => ?_, I.base.free, fun b o e hx => ?_, I.base.tups, I.base.frzs, I.base.tbls⟩, ⟨_, hn', fun j y v' e1 e2 e3 => ?_⟩, fun y c e => ?_, I.free, I.freeC, fun p hp => ?_, I.hok.track fun b u hb q => ?_, by simpa using I.len⟩
  · obtain ⟨sl, q⟩ := I.base.slot b o e n hb hx
    exact ⟨sl, (hs.2 b (far b o e)).trans q⟩
  · obtain ⟨o1, q⟩ := I.base.there b o e hx
    exact ⟨o1, (hs.2 b (far b o e)).trans q⟩
  · have ji : j ≠ i := fun z => by
      subst z
      rw [List.getElem?_set] at e2
      simp at e2
    rw [List.getElem?_set_ne (Ne.symm ji)] at e2
    obtain ⟨u', r', q⟩ := hl j y v' e1 e2 e3
    refine ⟨u', r', ?_⟩
    rcases q with ⟨k, e⟩ | ⟨k, c, e, z⟩
    · refine .inl ⟨k, ?_⟩
      have : y ≠ n := fun e => ji (nodup_ix hN e1 (e ▸ hi))
      simp [this, e]
    · exact .inr ⟨k, c, e, z.sameBut hs (cne y c e)⟩
  · obtain ⟨w', z⟩ := I.cell y c e
    exact ⟨w', z.sameBut hs (cne y c e)⟩
  · obtain ⟨e, n, ne, nf, d⟩ := I.pin p hp
    exact ⟨(hs.2 p.1 ne).trans e, n, ne, nf, d⟩
  · refine (hs.2 b fun z => ?_).trans q
    subst z
    exact hb I.free
theorem air_on {B h5 : Heap} {a C : Addr} {t : Value} (I1 : Inv X pins σ H1 s1) (os : s'.os = s1.os) (bare : AllBare s'.gens) (un : Un (frs X.stack) [] H1 H' s1.heap s'.heap) (hok : HOk X.prog X.w H' s'.heap) (air : Air X.stack H' s1.heap B a C t s'.heap)
    (st : B.StaysIn h5) (up : s'.heap.UpToSlots h5) (tk : Nat) : Inv X pins σ H' { s' with heap := h5, toks := tk } := by
  have I2 : Inv X pins σ H' s' := I1.call' os un hok bare (by intro b z; cases z)
  refine I1.call' (s' := { s' with heap := h5, toks := tk }) os ⟨fun b o q n hf hx => ?_, fun b o q n hf hx => ?_, un.free, fun b o q hx => ?_, un.tups, un.frzs, un.tbls⟩ (hok.track fun b u hn q => ?_) bare (by intro b z; cases z)
  · exact st _ _ (air.bk b o (un.keep b o q n hf hx) hf (.inr ⟨o, q⟩))
  · obtain ⟨s2, q2⟩ := un.slot b o q n hf hx
    obtain ⟨s3, q3⟩ := up b _ q2 (frm_dat I2 hf q2)
    exact ⟨s3, q3⟩
  · obtain ⟨o1, q1⟩ := un.there b o q hx
    by_cases hf : b ∈ frs X.stack
    · obtain ⟨s3, q3⟩ := up b _ q1 (frm_dat I2 hf q1)
      exact ⟨_, q3⟩
    · exact ⟨_, st _ _ (air.bk b o1 q1 hf (.inr ⟨o, q⟩))⟩
  · exact st _ _ (air.bk b u q (fun z => hn (I2.stkFree b z)) (.inl hn))
abbrev Cx.inEx (X : Cx) (a : Addr) : Cx := { X with A := X.A.mark (some (.ref a)), calm := false, xe := fun _ _ => False }
theorem Cx.Ok.inEx (ok : X.Ok) (a : Addr) : (X.inEx a).Ok := ⟨ok.mod, ok.kind, ok.glob, ok.blt, ok.above, ok.inj, ok.has, ok.cab, fun z => (Bool.noConfusion (show false = true from z)), ok.frames, ok.stk, ok.exf, ok.bs, ok.bsz, ok.noex, ok.exfs, ok.funs, ok.frf⟩
theorem Inv.inEx (I : Inv X pins σ H s) (a : Addr) : Inv (X.inEx a) pins σ H s := ⟨I.ok.inEx a, I.os, I.bare, I.base, I.loc, I.cell, I.free, I.freeC, I.pin, I.hok, I.len⟩
theorem Inv.outEx {a : Addr} (ok : X.Ok) (I : Inv (X.inEx a) pins σ H s) : Inv X pins σ H s := ⟨ok, I.os, I.bare, I.base, I.loc, I.cell, I.free, I.freeC, I.pin, I.hok, I.len⟩
def exO (a : Addr) : HO := .ext fun h => ∃ o, h.get? a = some o
theorem Inv.exc {a : Addr} {oe : Obj} (I : Inv X pins σ H s) (I1 : Inv X pins σ H1 s1) (he : s.heap.get? a = some oe) (ha : H a = none) (na : s1.heap.get? a = none) : Inv X pins σ (upd H a (.frz oe (exO a))) s := by
  have old : ∀ b o, s1.heap.get? b = some o → b ≠ a := fun b o q z => by subst z; rw [na] at q; cases q
  have sm : ∀ b o, s1.heap.get? b = some o → upd H a (.frz oe (exO a)) b = H b := fun b o q => upd_ne (old b o q)
  have kp : ∀ b u, H b = some u → upd H a (.frz oe (exO a)) b = some u := fun b u q => by
    rw [upd_ne]
    · exact q
    · intro z; subst z; rw [ha] at q; cases q
  have ba := I.base
  refine ⟨I.ok, I.os, I.bare, ⟨ba.keep, ba.slot, fun b o q n hx => ?_, ba.there, fun b xs q => kp _ _ (ba.tups b xs q), fun b o u q => kp _ _ (ba.frzs b o u q), fun b ps q => ?_⟩, I.loc, I.cell, ?_, fun y c e => ?_, fun p hp => ?_, fun b u q => ?_, I.len⟩
  · obtain ⟨o1, q1⟩ := I1.base.there b o q hx
    rw [sm b o1 q1]
    exact ba.free b o q n hx
  · obtain ⟨more, q1⟩ := ba.tbls b ps q
    exact ⟨more, kp _ _ q1⟩
  · obtain ⟨_, ⟨o, _, _, q, _⟩, _⟩ := I1.loc
    rw [sm _ _ q]
    exact I.free
  · obtain ⟨v, o, q, _⟩ := I1.cell y c e
    rw [sm _ _ q]
    exact I.freeC y c e
  · obtain ⟨e, n, ne, nf, d⟩ := I.pin p hp
    exact ⟨e, by rw [sm _ _ (I1.pin p hp).1]; exact n, ne, nf, d⟩
  · by_cases hb : b = a
    · subst hb
      rw [upd_same] at q
      cases q
      exact ⟨he, ⟨oe, he⟩, ⟨oe, he⟩, fun h1 h2 ⟨o, q⟩ k => ⟨o, k o q⟩⟩
    · rw [upd_ne hb] at q
      exact (I.hok b u q).stay (fun _ _ _ z => z) (fun c z => kp _ _ z) fun c xs z => kp _ _ z
end
def XP (X : Cx) (pins : List (Addr × Obj)) (σ : St) (E : XK) (e : Value) (s' : Shared) : Prop := ∃ s1 H1, Inv X pins σ H1 s1 ∧ CXE X.prog X.w X.stack H1 s1 E e s'
structure Hnd (X : Cx) (R : Addr) (x n : Str) (i : Nat) : Prop where
  hg : Gl X x
  hm : X.mg x = some (.ref R)
  nd : X.N.Nodup
  hi : X.N[i]? = some n
  lo : X.env.scope.names.lookup n = some .local
  st : X.stack = X.env :: X.outer ∧ X.env.frame = some X.env.locals
  db : (x == ("__debug__" : Str)) = false
section
variable {X : Cx} {pins : List (Addr × Obj)} {σ : St} {s s' : Shared}
def offN (D : Ends) (i : Nat) : Ends := { nx := fun σ H => D.nx (σ.set i none) H, rt := D.rt, bk := fun σ H => D.bk (σ.set i none) H, ct := fun σ H => D.ct (σ.set i none) H }
theorem catch_ok {R : Addr} {x n : Str} {i : Nat} {np pos : Pos} {b0 : Stmt} {suite : List Stmt} {ts : TS} {D : Ends} {E : XK} {e : Value} (N : Hnd X R x n i) (hs : ∀ a, PSs (X.inEx a) (b0 :: suite) ts)
    (mt : ∀ C H, E (.ref C) none H → exmOne X.K (.ref C) (.ref R) = some true ∧ ∀ a oe, oe.cls = .ref C → H a = none → ts (offN D i) (σ.set i (some (.ref a))) (upd H a (.frz oe (exO a))))
    (h : XP X pins σ E e s') :
    wpAny (model X.prog X.w) X.A (noteFrame e X.env) (fun _ s2 => wpAny (model X.prog X.w) X.A (setFlight e none) (fun _ s3 => wpAny (model X.prog X.w) X.A (handleBy e X.env [.ExceptHandler (some (.Name x np)) (some n) (b0 :: suite) pos]) (SP X pins D) X.xe s3) X.xe s2) X.xe s' := by
  obtain ⟨s1, H1, I1, a, C, t, B, H', rfl, os, bare, un, hok, air, e⟩ := h
  obtain ⟨mt1, mt2⟩ := mt C H' e
  have ok := I1.ok
  have fr : X.A.frames = some (X.env :: X.outer) := by rw [← N.st.1]; exact ok.frames
  have fl := air.fly
  rw [N.st.1] at fl
  have na : s1.heap.get? a = none := by
    cases q : s1.heap.get? a with
    | none => rfl
    | some o =>
      obtain ⟨oe, vs, he, _, hd, _⟩ := fl.first
      have I2 : Inv X pins σ H' s' := I1.call' os un hok bare (by intro b z; cases z)
      have nf : a ∉ frs X.stack := fun z => frm_dat I2 z he _ hd
      have := air.bk a oe he nf (.inr ⟨o, q⟩)
      rw [fl.2.1] at this
      cases this
  have ha : H' a = none := by
    cases q : H' a with
    | none => rfl
    | some u =>
      obtain ⟨oe, vs, he, _, hd, _⟩ := fl.first
      have I2 : Inv X pins σ H' s' := I1.call' os un hok bare (by intro b z; cases z)
      have nf : a ∉ frs X.stack := fun z => frm_dat I2 z he _ hd
      have := air.bk a oe he nf (.inl (by rw [q]; simp))
      rw [fl.2.1] at this
      cases this
  refine wpAny_looks_onW fr N.st.2 fl fun h4 held4 up4 => ?_
  refine wpAny_landsW held4 fun h5 fl5 up5 => ?_
  have I5 := air_on I1 os bare un hok air fl5.1 (up4.trans up5) s'.toks
  obtain ⟨ob, hob, hobc⟩ := fl5.there
  have I5m := I5.inEx a
  refine wpAny_handleBy_cons (codeAny_handlers_test (ld_glob I5m N.hg N.hm ?_ N.db)) (by intro q; cases q)
  have LT : Looks (model X.prog X.w) h5 (typeOf (.ref a)) (.ref C) := hobc ▸ (Looks.ld hob).andThen .now
  refine (exm_one I5.kIn LT mt1).here ?_
  refine codeAny_handlers_suite_as ?_
  refine lands_againW fl5 fun h6 fl6 up6 => ?_
  have I6 := air_on I1 os bare un hok air fl6.1 ((up4.trans up5).trans up6) s'.toks
  obtain ⟨oe, vs, he, hec, hed, _⟩ := fl6.first
  have I7 := (I6.exc I1 he ha na).inEx a
  refine store_ok (X := X.inEx a) I7 N.nd N.hi (.inl N.lo) (v := .ref a) rfl (fun s8 I8 => ?_) (.inr N.lo)
  refine wpAny_mono (hs a pins s8 _ _ (offN D i) I8 (mt2 a oe hec ha)) (fun f s9 q => ?_) fun _ _ z => z.elim
  show wpAny (model X.prog X.w) X.A (do bindName X.env n .none; unbindBehindTheSuite X.env n pos) (fun _ s3 => SP X pins D f s3) X.xe s9
  cases f with
  | next =>
    obtain ⟨σ', H9, I9, q⟩ := q
    exact gone_ok (I9.outEx ok) N.nd N.hi N.lo fun s10 I10 => ⟨_, H9, I10, q⟩
  | brk =>
    obtain ⟨σ', H9, I9, q⟩ := q
    exact gone_ok (I9.outEx ok) N.nd N.hi N.lo fun s10 I10 => ⟨_, H9, I10, q⟩
  | cont =>
    obtain ⟨σ', H9, I9, q⟩ := q
    exact gone_ok (I9.outEx ok) N.nd N.hi N.lo fun s10 I10 => ⟨_, H9, I10, q⟩
  | ret u =>
    obtain ⟨v, σ', H9, I9, r, q⟩ := q
    exact gone_ok (I9.outEx ok) N.nd N.hi N.lo fun s10 I10 => ⟨v, _, H9, I10, r, q⟩
def PEx (X : Cx) (e : Expr) (t : St → Hp → VK → XK → Prop) : Prop :=
  ∀ (pins : List (Addr × Obj)) (s : Shared) (σ : St) (H : Hp) (Q : VK) (E : XK), Inv X pins σ H s → t σ H Q E → wpAny (model X.prog X.w) X.A (eval e X.env) (EP X pins σ Q) (XP X pins σ E) s
def PSx (X : Cx) (st : List Stmt) (t : Ends → XK → St → Hp → Prop) : Prop :=
  ∀ (pins : List (Addr × Obj)) (s : Shared) (σ : St) (H : Hp) (D : Ends) (E : XK), Inv X pins σ H s → t D E σ H → wpAny (model X.prog X.w) X.A (execs st X.env) (SP X pins D) (XP X pins σ E) s
variable {e : Expr} {es : List Expr} {pos : Pos}
theorem execs_one {st : Stmt} {D : Ends} {W : Value → Shared → Prop} (h : wpAny (model X.prog X.w) X.A (exec st X.env) (SP X pins D) W s) : wpAny (model X.prog X.w) X.A (execs [st] X.env) (SP X pins D) W s := by
  refine wpAny_execs_cons (thn h fun f s1 q => ?_)
  cases f with
  | next => exact wpAny_execs_nil q
  | ret v => exact q
  | brk => exact q
  | cont => exact q
theorem psx_expr {t : St → Hp → VK → XK → Prop} (he : PEx X e t) (hs : swapsWith e none pos.line X.env = pure false := by rfl) : PSx X [.Expr e pos] (fun D E σ H => t σ H (fun _ H1 => D.nx σ H1) E) := by
  intro pins s σ H D E I h
  exact execs_one (wpAny_Expr_any (thn (he pins s σ H _ E I h) fun v s1 ⟨x, H1, I1, r1, q1⟩ => ⟨σ, H1, I1, q1⟩) I.quiet hs)
theorem psx_if {c : Expr} {a b : List Stmt} {tc : TT} {t u : Ends → XK → St → Hp → Prop} (hc : PT X.nox c tc) (ha : PSx X a t) (hb : PSx X b u) : PSx X [.If c a b pos] (fun D E σ H => tc σ H fun k H1 => if k = true then t D E σ H1 else u D E σ H1) := by
  intro pins s σ H D E I h
  refine execs_one (wpAny_If (wpAny_mono (hc pins s σ H _ (I.wish _) h) (fun d s1 ⟨H1, I1, q1⟩ => ?_) fun _ _ z => z.elim))
  cases d with
  | true => exact ha pins s1 σ H1 D E I1.unwish q1
  | false => exact hb pins s1 σ H1 D E I1.unwish q1
theorem ps_try {R : Addr} {x n : Str} {i : Nat} {np hp pos : Pos} {body : List Stmt} {b0 : Stmt} {suite : List Stmt} {t : Ends → XK → St → Hp → Prop} {ts : TS} (N : Hnd X R x n i) (hb : PSx X body t) (hs : ∀ a, PSs (X.inEx a) (b0 :: suite) ts) :
    PS X (.Try body [.ExceptHandler (some (.Name x np)) (some n) (b0 :: suite) hp] [] [] pos) (fun D σ H => t D (fun cls d H' => ∃ C, cls = .ref C ∧ exmOne X.K (.ref C) (.ref R) = some true ∧ ∀ a oe, oe.cls = .ref C → H' a = none → ts (offN D i) (σ.set i (some (.ref a))) (upd H' a (.frz oe (exO a)))) σ H) := by
  intro pins s σ H D I h
  refine wpAny_Try_except (wpAny_mono (hb pins s σ H D _ I h) (fun f s1 q => ?_) fun e s1 q => catch_ok N hs (fun C H' z => ?_) q)
  · cases f with
    | next => exact wpAny_execs_nil q
    | ret v => exact q
    | brk => exact q
    | cont => exact q
  · obtain ⟨C', z, m1, m2⟩ := z
    cases z
    exact ⟨m1, m2⟩
theorem pex_call {k : Nat} {f : Addr} {fd : FuncData} {ps : List Str} {sp : Sp} {x : Str} {p : Pos} {t : TA} (F : FnOk X.prog X.w X.K X.mg X.base (CXE X.prog X.w) k f fd ps sp) (hr : Room k X.A) (hg : Gl X x) (hm : X.mg x = some (.ref f)) (hk : PySem.W.keepIn X.K (.ref f) = true) (hb : Binds X.K fd ps [])
    (ha : PA X.nox (e :: es) t) (hdb : (x == ("__debug__" : Str)) = false := by decide) (he : starEach (e :: es) X.env = (false, eval e X.env) :: starEach es X.env := by rfl) (hpl : (backTo pos (starEach es X.env)).any (·.1) = false := by rfl) :
    PEx X (.Call (.Name x p) (e :: es) [] pos) (fun σ H Q E => t σ H fun vs H1 => sp vs H1 Q E) := by
  intro pins s σ H Q E I h
  refine wpAny_Call_Name_kw (ld_glob I hg hm ?_ hdb)
  refine PySem.W.callWith_K (h₀ := X.base) I.ok.mod.kin hk (wpAny_mono (ha pos pins s σ H _ (I.wish _) h) (fun us s1 ⟨vs, H1, I1, r, q⟩ => ⟨I1.unwish.kIn, ?_⟩) fun _ _ z => z.elim) he hpl
  have I1 := I1.unwish
  have hl : us.length = ps.length := by rw [← r.length]; exact F.len _ _ _ _ q
  have bd := hb s1 us I1.kIn (by rw [List.append_nil]; exact hl)
  rw [List.append_nil] at bd
  refine wpAny_call (codeAny_mono (F.run X.A X.stack s1 H1 ⟨us, []⟩ us vs Q E hr I1.env0 bd r q) fun r s' hq => ?_)
  cases r with
  | error e => exact ⟨s1, H1, I1, hq⟩
  | ok fl =>
    cases fl with
    | ret u => exact I1.after hq
    | next => exact False.elim hq
    | brk => exact False.elim hq
    | cont => exact False.elim hq
end
end L2
set_option Elab.async false
set_option linter.all false
set_option maxRecDepth 100000
set_option maxHeartbeats 4000000
namespace MI
open PySem PySem.Spec L2
def xdOf (mg : Str → Option Value) (E : XK) : XD := fun c _ H' _ => ∃ C, mg c = some (.ref C) ∧ E (.ref C) none H'
def spX (K : PySem.W.Frag) (mg : Str → Option Value) (n : Nat) (F : SF) : Sp := fun vs H Q E => vs.length = n ∧ ∃ ι ds h, Reps K ι H vs ds ∧ HRep K ι H h ∧ out K (xdOf mg E) (repD K) ι H (F ds h) Q
structure DnX (P : Program) (w : World) (K : PySem.W.Frag) (mg : Str → Option Value) (base : Heap) (k : Nat) (x : Str) (ps : List Str) (sp : Sp) (f : Addr) (fd : FuncData) : Prop where
  ok : FnOk P w K mg base (CXE P w) k f fd ps sp
  m : mg x = some (.ref f)
  kp : PySem.W.keepIn K (.ref f) = true
  b : Binds K fd ps []
theorem def_fnX {P : Program} {w : World} {K : PySem.W.Frag} {mg : Str → Option Value} {base : Heap} {x qual : Str} {st : Stmt} {f : Addr} {fd : FuncData} {N ps : List Str} {k : Nat} {b : SS} (Fu : Fun K x qual st f fd) (S : FnScope N ps (defScope st))
    (hb : ∀ (cdv : Value) (A : Around) (outer : List Env) (s : Shared) (H : Hp) (E : XK), Room k (A.deeper (PyProof.Rows.envOfC qual (defScope st) s.heap.objs.size f cdv)) → MSs (cxE P w K mg base N qual (defScope st) f cdv A outer s H E) (xdOf mg E) (defBody st) b) :
    FnOk P w K mg base (CXE P w) (k + 1) f fd ps (spX K mg ps.length (bodyR b N.length)) := by
  obtain ⟨oc, od, kV, doc, pm, an, cdv, ct, osl, rfl, lk, hcd⟩ := Fu.ex
  refine fn_of lk hcd S (fun vs H Q E h => h.1) fun A outer s H vs Q E hr h => ⟨_, hb cdv A outer s H E hr, ?_⟩
  obtain ⟨hl, ι, ds, h, r, hr', o⟩ := h
  refine ⟨ι, startD N.length ds, h, srep_start r, hr', ?_⟩
  unfold bodyR at o
  cases hbd : b (startD N.length ds) h with
  | rt d h1 => rw [hbd] at o; exact o
  | nx τ h1 => rw [hbd] at o; exact fun ι' H' σ' g1 S1 hr1 => o ι' H' .non g1 .non hr1
  | ex c h1 => rw [hbd] at o; exact o
  | bk τ h1 => rw [hbd] at o; exact o.elim
  | ct τ h1 => rw [hbd] at o; exact o.elim
  | no => rw [hbd] at o; exact o.elim
section
variable {K : PySem.W.Frag} {ι : List Addr} {H : Hp} {h : Hd} {n : Nat}
noncomputable def sLocX (n : Nat) (F : SF) : SF := fun ds h => open Classical in if ∀ d ∈ ds, clo 0 d then (match F ds [] with | .ex c _ => if ds.length = n then .ex c h else .no | _ => sLoc false n F ds h) else .no
theorem noex {m : Bool} {F : SF} {ds : List D} {c : Str} {h1 : Hd} : sLoc m n F ds h ≠ .ex c h1 := by
  unfold sLoc
  split
  · unfold locR
    intro e
    repeat (first | (split at e) | cases e)
  · intro e; cases e
theorem out_noex {E E' : XD} {r : R D} {Q : VK} (ne : ∀ c h1, r ≠ .ex c h1) (o : out K E (repD K) ι H r Q) : out K E' (repD K) ι H r Q := by
  cases r with
  | ok a h => exact o
  | ex c h => exact absurd rfl (ne c h)
  | no => exact o
theorem HRep.stays {H' : Hp} (hr : HRep K ι H h) (k : ∀ a u, H a = some u → H' a = some u) : Gr ι H ι H' ∧ HRep K ι H' h := by
  have G : Gr ι H ι H' := ⟨⟨[], by simp, by simp⟩, fun a vs q => k _ _ q, fun a o u q => k _ _ q, fun a u q _ => k _ _ q, fun a u q => ⟨u, k _ _ q⟩⟩
  refine ⟨G, hr.nd, hr.len, fun i a o e1 e2 => ?_⟩
  have r := hr.obj i a o e1 e2
  obtain ⟨u, hu, _⟩ := r.some
  exact r.mono G (by rw [hu]; exact k a u hu)
theorem clos_iff' : ∀ {ds : List D}, (∀ d ∈ ds, clo 0 d) → clos 0 ds
  | [], _ => by simp [clos]
  | d :: ds, h => by simp only [clos]; exact ⟨h d List.mem_cons_self, clos_iff' fun x hx => h x (List.mem_cons_of_mem _ hx)⟩
theorem locX_snd {mg : Str → Option Value} {F : SF} {vs : List V} {ds : List D} {Q : VK} {E : XK} {E2 : XD} (r : Reps K ι H vs ds) (hr : HRep K ι H h) (o : out K E2 (repD K) ι H (sLocX n F ds h) Q) (hE : ∀ c H' , Gr ι H ι H' → HRep K ι H' h → E2 c ι H' h → xdOf mg E c ι H' h) :
    spX K mg n F vs H (fun v H1 => ∃ L, Able H1 L ∧ ∀ H2, FrzOf L H1 H2 → Q v H2) E := by
  unfold sLocX at o
  split at o
  · rename_i hc
    have ok : out K E2 (repD K) ι H (sLoc false n F ds h) Q → spX K mg n F vs H (fun v H1 => ∃ L, Able H1 L ∧ ∀ H2, FrzOf L H1 H2 → Q v H2) E := fun o => by
      obtain ⟨l, ι0, ds0, h0, r0, hr0, o0⟩ := loc_snd r hr (out_noex (E' := X0) (fun c h1 => noex) o) E
      refine ⟨l, ι0, ds0, h0, r0, hr0, ?_⟩
      cases e : F ds0 h0 with
      | ok a h1 => rw [e] at o0; exact o0
      | ex c h1 => rw [e] at o0; exact fun ι' H' g hr => (o0 ι' H' g hr).elim
      | no => rw [e] at o0; exact o0
    split at o
    · rename_i c hx e
      split at o
      · rename_i hl
        have R0 : Reps K [] H vs ds := by
          have := r.cut (clos_iff' hc)
          rwa [List.take_zero] at this
        refine ⟨by rw [r.len]; exact hl, [], ds, [], R0, ⟨List.nodup_nil, rfl, fun i a o e1 => by simp at e1⟩, ?_⟩
        rw [e]
        intro ι' H' g _
        obtain ⟨G, hr'⟩ := hr.stays fun a u q => g.oth a u q (by simp)
        exact hE c H' G hr' (o ι H' G hr')
      · exact o.elim
    · exact ok o
  · exact o.elim
end
theorem me_callE (m : Bool) {X : Cx} {E : XD} {k n : Nat} {f : Addr} {fd : FuncData} {ps : List Str} {x : Str} {F : SF} {ka : SA} {e : Expr} {es : List Expr} {p pos : Pos} (G : Dn X.prog X.w X.K X.mg X.base k x ps (spOf X.K n F) f fd) (hr : Room k X.A) (hg : Gl X x) (ha : MA X E (e :: es) ka)
    (hdb : (x == ("__debug__" : Str)) = false := by decide) (he : starEach (e :: es) X.env = (false, eval e X.env) :: starEach es X.env := by rfl) (hpl : (backTo pos (starEach es X.env)).any (·.1) = false := by rfl) : ME X E (.Call (.Name x p) (e :: es) [] pos) (sA (sLoc m n F) ka) := by
  refine PE.weak (pe_frz (pe_call G.ok hr hg G.m G.kp G.b .nil pass0 ha hdb he hpl)) fun σ H Q ⟨ι, τ, h, S, Rh, o⟩ => ?_
  refine ⟨ι, τ, h, S, Rh, out_bind o fun ds h1 ι1 H1 vs g1 r1 hr1 o1 => ?_⟩
  rw [List.append_nil]
  exact loc_snd r1 hr1 (out_noex (fun c h1 => noex) o1) _
theorem me_callX0 {X : Cx} {k n : Nat} {f : Addr} {fd : FuncData} {ps : List Str} {x : Str} {F : SF} {ka : SA} {e : Expr} {es : List Expr} {p pos : Pos} (G : DnX X.prog X.w X.K X.mg X.base k x ps (spX X.K X.mg n F) f fd) (hr : Room k X.A) (hg : Gl X x) (ha : MA X X0 (e :: es) ka)
    (hdb : (x == ("__debug__" : Str)) = false := by decide) (he : starEach (e :: es) X.env = (false, eval e X.env) :: starEach es X.env := by rfl) (hpl : (backTo pos (starEach es X.env)).any (·.1) = false := by rfl) : ME X X0 (.Call (.Name x p) (e :: es) [] pos) (sA (sLocX n F) ka) := by
  have ps0 : Passes (CXE X.prog X.w) X E0 := by
    rintro pins σ H s e s' I ⟨a, C, t, B, H', rfl, os, bare, un, hok, air, z⟩
    exact z.elim
  refine PE.weak (pe_frz (pe_call G.ok hr hg G.m G.kp G.b .nil ps0 ha hdb he hpl)) fun σ H Q ⟨ι, τ, h, S, Rh, o⟩ => ?_
  refine ⟨ι, τ, h, S, Rh, out_bind o fun ds h1 ι1 H1 vs g1 r1 hr1 o1 => ?_⟩
  rw [List.append_nil]
  exact locX_snd r1 hr1 o1 fun c H' _ _ z => z.elim
section
variable {P : Program} {w : World} {K : PySem.W.Frag} {mg : Str → Option Value} {base : Heap} {N : List Str} {qual : Str} {scope : Scope} {fa : Addr} {cd : Value} {A : Around} {outer : List Env} {s0 : Shared} {H0 : Hp} {E : XK}
theorem me_callX {k n : Nat} {f : Addr} {fd : FuncData} {ps : List Str} {x : Str} {F : SF} {ka : SA} {e : Expr} {es : List Expr} {p pos : Pos} (G : DnX P w K mg base k x ps (spX K mg n F) f fd) (hr : Room k (cxE P w K mg base N qual scope fa cd A outer s0 H0 E).A) (hg : Gl (cxE P w K mg base N qual scope fa cd A outer s0 H0 E) x) (ha : MA (cxE P w K mg base N qual scope fa cd A outer s0 H0 E) (xdOf mg E) (e :: es) ka)
    (hdb : (x == ("__debug__" : Str)) = false := by decide) (he : starEach (e :: es) (cxE P w K mg base N qual scope fa cd A outer s0 H0 E).env = (false, eval e (cxE P w K mg base N qual scope fa cd A outer s0 H0 E).env) :: starEach es (cxE P w K mg base N qual scope fa cd A outer s0 H0 E).env := by rfl) (hpl : (backTo pos (starEach es (cxE P w K mg base N qual scope fa cd A outer s0 H0 E).env)).any (·.1) = false := by rfl) :
    ME (cxE P w K mg base N qual scope fa cd A outer s0 H0 E) (xdOf mg E) (.Call (.Name x p) (e :: es) [] pos) (sA (sLocX n F) ka) := by
  refine PE.weak (pe_frz (pe_call (X := cxE P w K mg base N qual scope fa cd A outer s0 H0 E) G.ok hr hg G.m G.kp G.b .nil (passE fun _ _ z => z) ha hdb he hpl)) fun σ H Q ⟨ι, τ, h, S, Rh, o⟩ => ?_
  refine ⟨ι, τ, h, S, Rh, out_bind o fun ds h1 ι1 H1 vs g1 r1 hr1 o1 => ?_⟩
  rw [List.append_nil]
  exact locX_snd r1 hr1 o1 fun c H' _ _ z => z
def sRaise (c : Str) (ka : SA) : SS := fun τ h => (ka τ h).fl fun ds h1 => if ds.length ≤ LINE then .ex c h1 else .no
theorem ms_raise {C : Addr} {x : Str} {ka : SA} {e : Expr} {es : List Expr} {np cpos pos : Pos} (hC : XCls K C) (hg : Gl (cxE P w K mg base N qual scope fa cd A outer s0 H0 E) x) (hm : mg x = some (.ref C)) (ha : MA (cxE P w K mg base N qual scope fa cd A outer s0 H0 E) (xdOf mg E) (e :: es) ka)
    (hdb : (x == ("__debug__" : Str)) = false := by decide) (he : starEach (e :: es) (cxE P w K mg base N qual scope fa cd A outer s0 H0 E).env = (false, eval e (cxE P w K mg base N qual scope fa cd A outer s0 H0 E).env) :: starEach es (cxE P w K mg base N qual scope fa cd A outer s0 H0 E).env := by rfl) (hpl : (backTo cpos (starEach es (cxE P w K mg base N qual scope fa cd A outer s0 H0 E).env)).any (·.1) = false := by rfl) :
    MS (cxE P w K mg base N qual scope fa cd A outer s0 H0 E) (xdOf mg E) (.Raise (some (.Call (.Name x np) (e :: es) [] cpos)) none pos) (sRaise x ka) := by
  refine PS.weak (ps_raise (X := cxE P w K mg base N qual scope fa cd A outer s0 H0 E) (Ex := fun H => E (.ref C) none H) hC hg hm rfl ha (fun pins σ H s h' a args I mk z => madeE I mk z) hdb he hpl) fun D σ H ⟨ι, τ, h, S, Rh, o⟩ => ?_
  refine ⟨ι, τ, h, S, Rh, out_fl o fun ds h1 ι1 H1 vs g1 r1 hr1 o1 => ?_⟩
  split at o1
  · rename_i hl
    obtain ⟨C', e1, z⟩ := o1 ι1 H1 (.refl _ _) hr1
    rw [hm] at e1
    cases e1
    exact ⟨by rw [r1.len]; exact le_line hl, z⟩
  · exact o1.elim
end
def noX {α : Type} : R α → R α
  | .ex _ _ => .no
  | r => r
def qA {α : Type} (ka : Sd → Hd → R α) : Sd → Hd → R α := fun τ h => noX (ka τ h)
abbrev MEx (X : Cx) (e : Expr) (f : SE) : Prop := PEx X e fun σ H Q E => lift X.K (xdOf X.mg E) (repD X.K) f σ H Q
abbrev MSx (X : Cx) (st : List Stmt) (f : SS) : Prop := PSx X st fun D E σ H => liftS X.K (xdOf X.mg E) f D σ H
section
variable {X : Cx}
theorem pex_frz {e : Expr} {t : St → Hp → VK → XK → Prop} (h : PEx X e t) : PEx X e (fun σ H Q E => t σ H (fun v H1 => ∃ L, Able H1 L ∧ ∀ H2, FrzOf L H1 H2 → Q v H2) E) := fun pins s σ H Q E I q =>
  L2.thn (h pins s σ H _ E I q) fun u s' ⟨v, H1, I1, r, L, ab, k⟩ => let ⟨H2, f, I2⟩ := Inv.frz I1 ab; ⟨v, H2, I2, r, k H2 f⟩
theorem mx_call {k n : Nat} {f : Addr} {fd : FuncData} {ps : List Str} {x : Str} {F : SF} {ka : SA} {e : Expr} {es : List Expr} {p pos : Pos} (G : DnX X.prog X.w X.K X.mg X.base k x ps (spX X.K X.mg n F) f fd) (hr : Room k X.A) (hg : Gl X x) (ha : MA X.nox X0 (e :: es) ka)
    (hdb : (x == ("__debug__" : Str)) = false := by decide) (he : starEach (e :: es) X.env = (false, eval e X.env) :: starEach es X.env := by rfl) (hpl : (backTo pos (starEach es X.env)).any (·.1) = false := by rfl) : MEx X (.Call (.Name x p) (e :: es) [] pos) (sA (sLocX n F) (qA ka)) := by
  intro pins s σ H Q E I ⟨ι, τ, h, S, Rh, o⟩
  refine pex_frz (pex_call G.ok hr hg G.m G.kp G.b ha hdb he hpl) pins s σ H Q E I ⟨ι, τ, h, S, Rh, ?_⟩
  have o2 := out_bind o (P := fun vs H1 => spX X.K X.mg n F vs H1 (fun v H1 => ∃ L, Able H1 L ∧ ∀ H2, FrzOf L H1 H2 → Q v H2) E) fun ds h1 ι1 H1 vs g1 r1 hr1 o1 => locX_snd r1 hr1 o1 fun c H' _ _ z => z
  unfold qA at o2
  cases e1 : ka τ h with
  | ok a h1 => rw [e1] at o2; exact o2
  | ex c h1 => rw [e1] at o2; exact o2.elim
  | no => rw [e1] at o2; exact o2
theorem mx_expr {e : Expr} {f : SE} {pos : Pos} (he : MEx X e f) (hs : swapsWith e none pos.line X.env = pure false := by rfl) : MSx X [.Expr e pos] (sDrop f) := fun pins s σ H D E I ⟨ι, τ, h, S, Rh, o⟩ =>
  psx_expr he hs pins s σ H D E I ⟨ι, τ, h, S, Rh, out_fl o fun d h1 ι1 H1 v g1 r1 hr1 o1 => o1 ι1 H1 _ (.refl _ _) (S.mono g1) hr1⟩
theorem mx_if {c : Expr} {a b : List Stmt} {fc : ST} {f g : SS} {pos : Pos} (hc : MT X.nox X0 c fc) (ha : MSx X a f) (hb : MSx X b g) : MSx X [.If c a b pos] (sIf (qA fc) f g) := by
  intro pins s σ H D E I ⟨ι, τ, h, S, Rh, o⟩
  refine psx_if hc ha hb pins s σ H D E I ⟨ι, τ, h, S, Rh, ?_⟩
  have o2 := out_fl o (Rp := repB) (P := fun k H1 => if k = true then liftS X.K (xdOf X.mg E) f D σ H1 else liftS X.K (xdOf X.mg E) g D σ H1) fun k h1 ι1 H1 k' g1 r1 hr1 o1 => by
    subst r1
    cases k' with
    | true => exact ⟨ι1, τ, h1, S.mono g1, hr1, o1⟩
    | false => exact ⟨ι1, τ, h1, S.mono g1, hr1, o1⟩
  unfold qA at o2
  cases e1 : fc τ h with
  | ok a h1 => rw [e1] at o2; exact o2
  | ex c h1 => rw [e1] at o2; exact o2.elim
  | no => rw [e1] at o2; exact o2
def sTry (i : Nat) (cs : Str → Bool) (fb fs : SS) : SS := fun τ h => match fb τ h with
  | .ex c h1 => if cs c = true then (match fs (τ.set i (some (.exc c))) h1 with
      | .nx τ' h' => .nx (τ'.set i none) h' | .rt d h' => .rt d h' | .bk τ' h' => .bk (τ'.set i none) h' | .ct τ' h' => .ct (τ'.set i none) h' | _ => .no) else .no
  | r => r
theorem SRep.off {K : PySem.W.Frag} {ι : List Addr} {H : Hp} {σ : St} {τ : Sd} (S : SRep K ι H σ τ) (i : Nat) : SRep K ι H (σ.set i none) (τ.set i none) := by
  refine ⟨by simp [S.len], fun j d e => ?_⟩
  by_cases hj : i = j
  · subst hj
    rw [List.getElem?_set] at e
    simp at e
  · rw [List.getElem?_set_ne hj] at e ⊢
    exact S.val j d e
theorem ms_try {R : Addr} {x n : Str} {i : Nat} {np hp pos : Pos} {body : List Stmt} {b0 : Stmt} {suite : List Stmt} {cs : Str → Bool} {fb fs : SS} (N : Hnd X R x n i)
    (hcs : ∀ c, cs c = true → ∃ C, X.mg c = some (.ref C) ∧ PySem.W.nsIn X.K mainGlobals c = some (some (.ref C)) ∧ PySem.W.exmOne X.K (.ref C) (.ref R) = some true)
    (hb : MSx X body fb) (hs : ∀ a, MSs (X.inEx a) X0 (b0 :: suite) fs) : MS X X0 (.Try body [.ExceptHandler (some (.Name x np)) (some n) (b0 :: suite) hp] [] [] pos) (sTry i cs fb fs) := by
  refine PS.weak (ps_try (ts := liftS X.K X0 fs) N hb hs) fun D σ H ⟨ι, τ, h, S, Rh, o⟩ => ⟨ι, τ, h, S, Rh, ?_⟩
  unfold sTry at o
  cases e : fb τ h with
  | nx τ' h' => rw [e] at o; exact o
  | rt d h' => rw [e] at o; exact o
  | bk τ' h' => rw [e] at o; exact o
  | ct τ' h' => rw [e] at o; exact o
  | no => rw [e] at o; exact o
  | ex c h1 =>
    rw [e] at o
    dsimp only at o
    split at o
    · rename_i hc
      obtain ⟨C, m, ns, ex⟩ := hcs c hc
      intro ι' H' g hr
      refine ⟨C, m, C, rfl, ex, fun a oe hoe ha => ?_⟩
      have G := g.trans (gr_new (ι := ι') ha (.frz oe (L2.exO a)))
      refine ⟨ι', τ.set i (some (.exc c)), h1, (S.mono G).set (.exc (o := oe) (C := C) upd_same hoe ns) i, hr.aside ha _, ?_⟩
      have o1 := outS_mono o G
      cases e2 : fs (τ.set i (some (.exc c))) h1 with
      | nx τ' h' => rw [e2] at o1; exact fun ι2 H2 σ' g2 S2 hr2 => o1 ι2 H2 _ g2 (S2.off i) hr2
      | bk τ' h' => rw [e2] at o1; exact fun ι2 H2 σ' g2 S2 hr2 => o1 ι2 H2 _ g2 (S2.off i) hr2
      | ct τ' h' => rw [e2] at o1; exact fun ι2 H2 σ' g2 S2 hr2 => o1 ι2 H2 _ g2 (S2.off i) hr2
      | rt d h' => rw [e2] at o1; exact o1
      | ex c' h' => rw [e2] at o1; exact o1.elim
      | no => rw [e2] at o1; exact o1.elim
    · exact o.elim
end
end MI
set_option Elab.async false
set_option linter.all false
set_option maxRecDepth 100000
set_option maxHeartbeats 4000000
namespace MI
open PySem PySem.Spec L2
section
variable {X : Cx}
def vc (v : V) (cv : Value) : Prop := (∃ C, v = .ref C ∧ cv = .ref C) ∨ ∃ T, v = .ty T ∧ cv = .type T
theorem vc.eq {v : V} {cv u : Value} (h : vc v cv) (r : RelV v u) : u = cv := by
  rcases h with ⟨C, rfl, rfl⟩ | ⟨T, rfl, rfl⟩
  · exact r
  · cases r; rfl
theorem ex_at {pins : List (Addr × Obj)} {σ : St} {H : Hp} {s : Shared} {a C : Addr} {o : Obj} (I : L2.Inv X pins σ H s) (e : H a = some (.frz o (exO a))) (c : o.cls = .ref C) : ExAt a C s.heap := ⟨o, (show ObjOk X.prog X.w H s.heap a (.frz o (exO a)) from I.hok a _ e).1, c⟩
theorem call_isE : CallR X (.builtin "isinstance") (fun xs H Q => ∃ a o C v cv b, xs = [.ref a, v] ∧ vc v cv ∧ H a = some (.frz o (exO a)) ∧ o.cls = .ref C ∧ XKit X.K C ∧ PySem.W.kitOne X.K (.ref C) cv = some b ∧ Q (.bl b) H) := by
  intro pins s σ H xs us Q I r h
  obtain ⟨a, o, C, v, cv, b, rfl, hv, ea, hc, Z, e, q⟩ := h
  obtain ⟨u, w', rfl, rx, rt⟩ := vals2 r
  obtain rfl : u = Value.ref a := rx
  obtain rfl := hv.eq rt
  exact PySem.W.kia_one (kitx_exc Z) I.kIn (ex_at I ea hc) e (fun z => nomatch z) fun tk => ⟨.bl b, H, I.tok tk, rfl, q⟩
theorem refs_vals : ∀ {cs : List Addr} {us : List Value}, Vals (cs.map V.ref) us → us = cs.map Value.ref
  | [], _, r => by cases r; rfl
  | c :: cs, us, r => by
    cases r with
    | cons r rs =>
      rw [List.map_cons, ← refs_vals rs]
      congr 1
theorem call_isET : CallR X (.builtin "isinstance") (fun xs H Q => ∃ a o C tp, ∃ cs : List Addr, ∃ b, xs = [.ref a, .ref tp] ∧ H tp = some (.tup (cs.map V.ref)) ∧ H a = some (.frz o (exO a)) ∧ o.cls = .ref C ∧ XKit X.K C ∧ PySem.W.kitAny X.K (.ref C) (cs.map Value.ref) = some b ∧ Q (.bl b) H) := by
  intro pins s σ H xs us Q I r h
  obtain ⟨a, o, C, tp, cs, b, rfl, et, ea, hc, Z, e, q⟩ := h
  obtain ⟨u, w', rfl, rx, rt⟩ := vals2 r
  obtain rfl : u = Value.ref a := rx
  obtain rfl : w' = Value.ref tp := rt
  obtain ⟨_, its, vr, o', h1, h2, h3⟩ := (show ObjOk X.prog X.w H s.heap tp (.tup (cs.map V.ref)) from I.hok tp _ et)
  obtain rfl := refs_vals vr
  obtain ⟨n, h3⟩ := h3
  have htp : s.heap.get? tp = some ⟨.type "tuple", o'.dict, .seq (cs.map Value.ref).toArray n, o'.slots⟩ := by
    rw [h1]
    obtain ⟨c, dd, dt, sl⟩ := o'
    simp only at h2 h3
    rw [h2, h3]
  exact PySem.W.kia_tup (kitx_exc Z) I.kIn (ex_at I ea hc) htp e (fun z => nomatch z) fun tk => ⟨.bl b, H, I.tok tk, rfl, q⟩
def sIsE (i : Nat) (f : Str → Option Bool) : SE := fun τ h => match τ[i]? with
  | some (some (.exc c)) => (match f c with | some b => .ok (.bl b) h | none => .no)
  | _ => .no
variable {E : XD}
theorem isE_of {K : PySem.W.Frag} {ι : List Addr} {H : Hp} {σ : St} {τ : Sd} {h : Hd} {i : Nat} {f : Str → Option Bool} {Q : VK} (S : SRep K ι H σ τ) (o : out K E (repD K) ι H (sIsE i f τ h) Q) :
    ∃ a ob C c b, σ[i]? = some (some (.ref a)) ∧ H a = some (.frz ob (exO a)) ∧ ob.cls = .ref C ∧ PySem.W.nsIn K mainGlobals c = some (some (.ref C)) ∧ f c = some b ∧ out K E (repD K) ι H (.ok (.bl b) h) Q := by
  unfold sIsE at o
  split at o
  · rename_i c e
    obtain ⟨v, e1, r⟩ := S.val i _ e
    cases r with
    | exc q hc hn =>
      split at o
      · rename_i b hb
        exact ⟨_, _, _, c, b, e1, q, hc, hn, hb, o⟩
      · exact o.elim
  · exact o.elim
theorem me_isE {i : Nat} {f : Str → Option Bool} {n x : Str} {v : V} {cv : Value} {p0 pn px pos : Pos} (hg : Gl X "isinstance") (hm : X.mg "isinstance" = none) (hb : bootBuiltins "isinstance" = some (.builtin "isinstance")) (hN : X.N[i]? = some n) (hv : Vis X.env.scope n) (hc : PE X (.Name x px) (tC v)) (hvc : vc v cv)
    (hf : ∀ c b C, f c = some b → PySem.W.nsIn X.K mainGlobals c = some (some (.ref C)) → XKit X.K C ∧ PySem.W.kitOne X.K (.ref C) cv = some b)
    (hd : (n == ("__debug__" : Str)) = false := by decide) (hcd : (n == ("__classdict__" : Str)) = false := by decide) : ME X E (.Call (.Name "isinstance" p0) [.Name n pn, .Name x px] [] pos) (sIsE i f) := by
  refine PE.weak (pe_callB call_isE hg hm hb (pa_cons (pe_var hN hv hd hcd) (pa_cons hc pa_nil))) fun σ H Q ⟨ι, τ, h, S, Rh, o⟩ => ?_
  obtain ⟨a, ob, C, c, b, e1, q, oc, ns, fb, o1⟩ := isE_of S o
  obtain ⟨Z, ki⟩ := hf c b C fb ns
  exact ⟨_, e1, a, ob, C, v, cv, b, rfl, hvc, q, oc, Z, ki, o1 ι H _ (.refl _ _) (.bl b) Rh⟩
theorem me_isET {i : Nat} {f : Str → Option Bool} {n : Str} {cs : List Addr} {es : List Expr} {t : TA} {k : Nat} {p0 pn px pos : Pos} (hg : Gl X "isinstance") (hm : X.mg "isinstance" = none) (hb : bootBuiltins "isinstance" = some (.builtin "isinstance")) (hN : X.N[i]? = some n) (hv : Vis X.env.scope n) (hc : PA X es t) (ht : ∀ σ H (Q : List V → Hp → Prop), Q (cs.map V.ref) H → t σ H Q) (hl : cs.length ≤ sizeLine)
    (hf : ∀ c b C, f c = some b → PySem.W.nsIn X.K mainGlobals c = some (some (.ref C)) → XKit X.K C ∧ PySem.W.kitAny X.K (.ref C) (cs.map Value.ref) = some b)
    (hd : (n == ("__debug__" : Str)) = false := by decide) (hcd : (n == ("__classdict__" : Str)) = false := by decide) : ME X E (.Call (.Name "isinstance" p0) [.Name n pn, .Tuple es k px] [] pos) (sIsE i f) := by
  refine PE.weak (pe_callB call_isET hg hm hb (pa_cons (pe_var hN hv hd hcd) (pa_cons (pe_tup hc) pa_nil))) fun σ H Q ⟨ι, τ, h, S, Rh, o⟩ => ?_
  obtain ⟨a, ob, C, c, b, e1, q, oc, ns, fb, o1⟩ := isE_of S o
  obtain ⟨Z, ki⟩ := hf c b C fb ns
  refine ⟨_, e1, ht _ _ _ ⟨by rw [List.length_map]; exact hl, fun p hp => ?_⟩⟩
  have G := gr_new (ι := ι) hp (.tup (cs.map V.ref))
  exact ⟨a, ob, C, p, cs, b, rfl, upd_same, G.frz _ _ _ q, oc, Z, ki, o1 ι _ _ G (.bl b) (Rh.aside hp _)⟩
end
end MI
set_option Elab.async false
set_option linter.all false
set_option maxRecDepth 100000
set_option maxHeartbeats 4000000
namespace K21
open PySem PySem.Spec L2 MI
def x_ValueError : Str → Option Bool := fun c => if c = "NoText" then some true else none
def x_NoText : Str → Option Bool := fun c => if c = "NoText" then some true else none
def x_Closed_NoBook_NoTable_NoWord : Str → Option Bool := fun c => if c = "NoText" then some false else none
def cs_ReachError : Str → Bool := fun c => decide (c = "NoText")
noncomputable def b_is_text_C0 : SE :=
 (s2 (gIn false) (sV 0) (sV 1))
noncomputable def b_is_text : SS :=
 (sRet (sAndV (sA gIsiR (sCons (sV 1) (sCons (sC (.ty "str")) sNil))) (sA gAll (sCons (sZ (sComp (sIt (sV 1)) t1 b_is_text_C0 [0])) sNil))))
noncomputable def b_looked_text (F_is_text : SF) : SS :=
 (sSeq (sIf (sNot (sTru (sA (sLoc false 2 F_is_text) (sCons (sV 0) (sCons (sV 1) sNil)))))
  (sRaise "NoText" (sCons (sC (.str "no text of the tongue")) sNil))
  sNx)
 (sRet (sV 1)))
noncomputable def b_room_of (F_looked_text : SF) (F_room_from : SF) : SS :=
 (sRet (sA (sLoc false 3 F_room_from) (sCons (sV 0) (sCons (sC (.int 0)) (sCons (sA (sLocX 2 F_looked_text) (sCons (s2 gIx (sV 0) (sC (.int 0))) (sCons (sV 1) sNil))) sNil)))))
noncomputable def b_kind_of (F_room_of : SF) : SS :=
 (sSeq (sSet 2 (sA (sLocX 2 F_room_of) (sCons (sV 0) (sCons (sV 1) sNil))))
 (sRet (s2 gIx (s2 gIx (sV 0) (sC (.int 2))) (sV 2))))
noncomputable def b_room_from (F_rooms_along : SF) : SS :=
 (sRet (s2 gIx (sA (sLoc false 3 F_rooms_along) (sCons (sV 0) (sCons (sV 1) (sCons (sV 2) sNil)))) (s1 gNeg (sC (.int 1)))))
noncomputable def b_rooms_along_L0 : SS :=
 (sDrop (sML gApp (sV 6) (sCons (s2 gIx (s2 gIx (sV 4) (s2 gIx (sV 6) (s1 gNeg (sC (.int 1))))) (sMS gIndex (sV 3) (sCons (sV 7) sNil))) sNil)))
noncomputable def b_rooms_along : SS :=
 (sSeq (sAsg (sV 0) (kTup 3 (kCons (kN 3) (kCons (kN 4) (kCons (kN 5) kNil)))))
 (sSeq (sSet 6 (sA gLst (sCons (sV 1) sNil)))
 (sSeq (sFor (sIt (sV 2)) (kN 7) b_rooms_along_L0)
 (sRet (sV 6)))))
noncomputable def b_law_signs : SS :=
 (sSeq (sSet 0 (sC (.str " !\"#$&'()*+,-./0123456789:;<=>?@ABCDEFGHIJKLMNOPQRSTUVWXYZ[\\]^_`")))
 (sRet (s2 gAddR (sV 0) (sC (.str "abcdefghijklmnopqrstuvwxyz{|}~\n")))))
noncomputable def b_law_tongue_L0 (F_law_signs : SF) (F_law_take : SF) : SS :=
 (sSeq (sSet 4 (sA (sLoc false 2 F_law_take) (sCons (sV 0) (sCons (sA gLen (sCons (sV 1) sNil)) sNil))))
 (sSeq (sSet 2 (s2 gAddR (sV 2) (s2 gIx (sV 1) (sV 4))))
 (sSet 1 (s2 gAddR (sSl2 (sV 1) oN (oS (sV 4))) (sSl2 (sV 1) (oS (s2 gAddR (sV 4) (sC (.int 1)))) oN)))))
noncomputable def b_law_tongue (F_law_signs : SF) (F_law_take : SF) : SS :=
 (sSeq (sSet 1 (sA (sLoc false 0 F_law_signs) sNil))
 (sSeq (sSet 2 (sC (.str "")))
 (sSeq (sFor (sRg gRng1 (sCons (s2 gAddR (sC (.int 1)) (sA (sLoc false 2 F_law_take) (sCons (sV 0) (sCons (sC (.int 6)) sNil)))) sNil)) (kN 3) (b_law_tongue_L0 F_law_signs F_law_take))
 (sRet (sV 2)))))
noncomputable def b_law_table (F_law_goes : SF) (F_law_kinds : SF) (F_law_shuffled : SF) (F_law_take : SF) (F_law_tongue : SF) : SS :=
 (sSeq (sSet 1 (sA (sLoc false 1 F_law_tongue) (sCons (sV 0) sNil)))
 (sSeq (sSet 2 (s2 gAddR (sC (.int 1)) (sA (sLoc false 2 F_law_take) (sCons (sV 0) (sCons (sC (.int 6)) sNil)))))
 (sSeq (sIf (sT (s2 hEq (sA (sLoc false 2 F_law_take) (sCons (sV 0) (sCons (sC (.int 4)) sNil))) (sC (.int 0))))
  (sSet 2 (s2 gAddR (sC (.int 1)) (sA (sLoc false 2 F_law_take) (sCons (sV 0) (sCons (sC (.int 32)) sNil)))))
  sNx)
 (sSeq (sAsg (sA (sLoc false 3 F_law_shuffled) (sCons (sV 0) (sCons (sA (sLoc false 3 F_law_goes) (sCons (sV 0) (sCons (sA gLen (sCons (sV 1) sNil)) (sCons (sV 2) sNil)))) (sCons (sA (sLoc false 2 F_law_kinds) (sCons (sV 0) (sCons (sV 2) sNil))) sNil)))) (kTup 2 (kCons (kN 3) (kCons (kN 4) kNil))))
 (sRet (sA gTup (sCons (sV 1) (sCons (sV 3) (sCons (sV 4) sNil)))))))))
noncomputable def b_law_number : SS :=
 (sRet (sAndV (sA gIsiR (sCons (sV 0) (sCons (sC (.ty "int")) sNil))) (sAndV (sNotV (sA gIsiR (sCons (sV 0) (sCons (sC (.ty "bool")) sNil)))) (sCh gLe gLe (sV 1) (sV 0) (sV 2)))))
noncomputable def b_law_led_L0 : SS :=
 (sSet 1 (s2 gIx (s2 gIx (s2 gIx (sV 0) (sC (.int 1))) (sV 1)) (sMS gFind (s2 gIx (sV 0) (sC (.int 0))) (sCons (sV 3) sNil))))
noncomputable def b_law_led : SS :=
 (sSeq (sFor (sIt (sV 2)) (kN 3) b_law_led_L0)
 (sRet (sV 1)))
noncomputable def b_law_text_C0 (F_law_take : SF) : SE :=
 (s2 gIx (sV 2) (sA (sLoc false 2 F_law_take) (sCons (sV 1) (sCons (sA gLen (sCons (sV 2) sNil)) sNil))))
noncomputable def b_law_text (F_law_take : SF) : SS :=
 (sSeq (sSet 2 (sA (sLoc false 2 F_law_take) (sCons (sV 0) (sCons (sC (.int 13)) sNil))))
 (sSeq (sIf (sT (s2 hEq (sA (sLoc false 2 F_law_take) (sCons (sV 0) (sCons (sC (.int 4)) sNil))) (sC (.int 0))))
  (sSet 2 (sA (sLoc false 2 F_law_take) (sCons (sV 0) (sCons (sC (.int 240)) sNil))))
  sNx)
 (sRet (sMS gJoin (sC (.str "")) (sCons (sZ (sComp (sRg gRng1 (sCons (sV 2) sNil)) t1 (b_law_text_C0 F_law_take) [0, 1])) sNil)))))
noncomputable def b_law_bad_C0 (F_law_signs : SF) : SE :=
 (sV 0)
noncomputable def b_law_bad_T1 (F_law_signs : SF) : ST :=
 (sT (s2 (gIn true) (sV 0) (sV 1)))
noncomputable def b_law_bad (F_law_signs : SF) : SS :=
 (sSeq (sSet 4 (sZ (sA gLst (sCons (sC .non) (sCons (sC (.bl true)) (sCons (sC (.bl false)) (sCons (sC (.int 0)) (sCons (sC (.int 7)) (sCons (s2 gPow (sC (.int 10)) (sC (.int 40))) (sCons (sZ (sA gLst sNil)) (sCons (sZ (sA gLst (sCons (sC (.str "a")) sNil))) (sCons (sA gTup sNil) (sCons (sA gTup (sCons (sC (.str "a")) sNil)) (sCons (sZ sDNew) (sCons (sZ (sA gLst (sCons (sV 1) sNil))) (sCons (sA gTup (sCons (sV 1) sNil)) (sCons (sZ (sA gList (sCons (sV 1) sNil))) (sCons (sA gTuple (sCons (sV 1) sNil)) sNil))))))))))))))))))
 (sSeq (sIf (sT (s2 gLt (sV 2) (sA gLen (sCons (sV 4) sNil))))
  (sRet (s2 gIx (sV 4) (sV 2)))
  sNx)
 (sSeq (sSet 5 (sZ (s2 gAddR (sZ (sCompF (sIt (sA (sLoc false 0 F_law_signs) sNil)) t1 (b_law_bad_T1 F_law_signs) (b_law_bad_C0 F_law_signs) [0])) (sZ (sA gLst (sCons (sC (.str "\t")) sNil))))))
 (sSeq (sSet 6 (s2 gMod (sV 3) (s2 gAddR (sA gLen (sCons (sV 1) sNil)) (sC (.int 1)))))
 (sRet (s2 gAddR (s2 gAddR (sSl2 (sV 1) oN (oS (sV 6))) (s2 gIx (sV 5) (s2 gMod (s2 gDiv (sV 3) (sC (.int 241))) (sA gLen (sCons (sV 5) sNil))))) (sSl2 (sV 1) (oS (sV 6)) oN)))))))
noncomputable def b_law_right (F_law_led : SF) (F_law_number : SF) (F_kind_of : SF) (F_room_of : SF) : SS :=
 (sSeq (sSet 2 (sA (sLoc false 3 F_law_led) (sCons (sV 0) (sCons (sC (.int 0)) (sCons (sV 1) sNil)))))
 (sSeq (sSet 3 (s2 gIx (s2 gIx (sV 0) (sC (.int 2))) (sV 2)))
 (sSeq (sSet 4 (sA (sLocX 2 F_room_of) (sCons (sV 0) (sCons (sV 1) sNil))))
 (sSeq (sIf (sNot (sTru (sA (sLoc false 3 F_law_number) (sCons (sV 4) (sCons (sV 2) (sCons (sV 2) sNil))))))
  sNoS
  sNx)
 (sRet (sA (sLoc false 3 F_law_number) (sCons (sA (sLocX 2 F_kind_of) (sCons (sV 0) (sCons (sV 1) sNil))) (sCons (sV 3) (sCons (sV 3) sNil)))))))))
noncomputable def b_law_refused (F_kind_of : SF) (F_room_of : SF) : SS :=
 (sSeq (sSet 3 (sC (.bl false)))
 (sSeq (sTry 4 cs_ReachError
  (sIf (qA (sT (s2 hEq (sV 2) (sC (.int 0)))))
  (sDrop (sA (sLocX 2 F_room_of) (qA (sCons (sV 0) (sCons (sV 1) sNil)))))
  (sDrop (sA (sLocX 2 F_kind_of) (qA (sCons (sV 0) (sCons (sV 1) sNil))))))
  (sSeq (sSet 3 (sAndV (sIsE 4 x_NoText) (sIsE 4 x_ValueError)))
 (sIf (sTru (sIsE 4 x_Closed_NoBook_NoTable_NoWord))
  sNoS
  sNx)))
 (sRet (sV 3))))
noncomputable def b_law_L0 (F_law_bad : SF) (F_law_hand : SF) (F_law_refused : SF) (F_law_right : SF) (F_law_table : SF) (F_law_take : SF) (F_law_text : SF) : SS :=
 (sIf (sNot (sTru (sA (sLoc false 3 F_law_refused) (sCons (sV 4) (sCons (sV 8) (sCons (sV 9) sNil))))))
  sNoS
  sNx)
noncomputable def b_law (F_law_bad : SF) (F_law_hand : SF) (F_law_refused : SF) (F_law_right : SF) (F_law_table : SF) (F_law_take : SF) (F_law_text : SF) : SS :=
 (sSeq (sSet 1 (sA (sLoc true 1 F_law_hand) (sCons (sV 0) sNil)))
 (sSeq (sSet 2 (sA (sLoc false 2 F_law_take) (sCons (sV 1) (sCons (sC (.int 30)) sNil))))
 (sSeq (sSet 3 (sA (sLoc false 2 F_law_take) (sCons (sV 1) (sCons (sC (.int 1000003)) sNil))))
 (sSeq (sSet 4 (sA (sLoc false 1 F_law_table) (sCons (sV 1) sNil)))
 (sSeq (sSet 5 (sA (sLoc false 2 F_law_text) (sCons (sV 1) (sCons (s2 gIx (sV 4) (sC (.int 0))) sNil))))
 (sSeq (sSet 6 (sA (sLoc false 1 F_law_table) (sCons (sV 1) sNil)))
 (sSeq (sSet 7 (sA (sLoc false 2 F_law_text) (sCons (sV 1) (sCons (s2 gIx (sV 6) (sC (.int 0))) sNil))))
 (sSeq (sSet 8 (sA (sLoc false 4 F_law_bad) (sCons (s2 gIx (sV 4) (sC (.int 0))) (sCons (sV 5) (sCons (sV 2) (sCons (sV 3) sNil))))))
 (sSeq (sIf (sOr (sNot (sTru (sA (sLoc false 2 F_law_right) (sCons (sV 4) (sCons (sV 5) sNil))))) (sOr (sNot (sTru (sA (sLoc false 2 F_law_right) (sCons (sV 6) (sCons (sV 7) sNil))))) (sNot (sTru (sA (sLoc false 2 F_law_right) (sCons (sV 4) (sCons (sV 5) sNil)))))))
  sNoS
  sNx)
 (sSeq (sFor (sIt (sZ (sA gLst (sCons (sC (.int 0)) (sCons (sC (.int 1)) (sCons (s2 gMod (sV 3) (sC (.int 2))) sNil)))))) (kN 9) (b_law_L0 F_law_bad F_law_hand F_law_refused F_law_right F_law_table F_law_take F_law_text))
 (sRet (sA (sLoc false 2 F_law_right) (sCons (sV 4) (sCons (sV 5) sNil))))))))))))))
end K21
set_option Elab.async false
set_option linter.all false
set_option maxRecDepth 100000
set_option maxHeartbeats 4000000
namespace MI
open PySem PySem.Spec L2
section
variable {env : Env} {es xs ys : List Expr} {a b : Expr} {pos : Pos}
theorem star_const {c} {k} : starEach (.Constant c k pos :: es) env = (false, eval (.Constant c k pos) env) :: starEach es env := rfl
theorem star_list : starEach (.List xs pos :: es) env = (false, eval (.List xs pos) env) :: starEach es env := rfl
theorem star_tuple {k} : starEach (.Tuple xs k pos :: es) env = (false, eval (.Tuple xs k pos) env) :: starEach es env := rfl
theorem star_bin {o} : starEach (.BinOp a o b pos :: es) env = (false, eval (.BinOp a o b pos) env) :: starEach es env := rfl
theorem star_dict {ks} : starEach (.Dict ks ys pos :: es) env = (false, eval (.Dict ks ys pos) env) :: starEach es env := rfl
theorem star_call {ks} : starEach (.Call a xs ks pos :: es) env = (false, eval (.Call a xs ks pos) env) :: starEach es env := rfl
theorem star_name {x} : starEach (.Name x pos :: es) env = (false, eval (.Name x pos) env) :: starEach es env := rfl
end
section
variable {X : Cx} {E : XD} {es : List Expr} {ka : SA} {p q : Pos} {x : Str} {k : Nat}
theorem mq_l0 (h : MA X E es ka) : MA X E (.List [] p :: es) (sCons (sZ (sA gLst sNil)) ka) := ma_cons (me_z (me_lst ma_nil)) h star_list
theorem mq_t0 {k} (h : MA X E es ka) : MA X E (.Tuple [] k p :: es) (sCons (sA gTup sNil) ka) := ma_cons (me_tup ma_nil) h star_tuple
theorem mq_d0 (h : MA X E es ka) : MA X E (.Dict [] [] p :: es) (sCons (sZ sDNew) ka) := ma_cons (me_z me_dnew) h star_dict
theorem mq_lst {xs : List Expr} {kx : SA} (hx : MA X E xs kx) (h : MA X E es ka) : MA X E (.List xs p :: es) (sCons (sZ (sA gLst kx)) ka) := ma_cons (me_z (me_lst hx)) h star_list
theorem mq_tup {k} {xs : List Expr} {kx : SA} (hx : MA X E xs kx) (h : MA X E es ka) : MA X E (.Tuple xs k p :: es) (sCons (sA gTup kx) ka) := ma_cons (me_tup hx) h star_tuple
theorem mq_n {fa : SE} (hc : ME X E (.Name x p) fa) (h : MA X E es ka) : MA X E (.Name x p :: es) (sCons fa ka) := ma_cons hc h star_name
theorem mq_call {a : Expr} {xs : List Expr} {ks} {fa : SE} (hc : ME X E (.Call a xs ks p) fa) (h : MA X E es ka) : MA X E (.Call a xs ks p :: es) (sCons fa ka) := ma_cons hc h star_call
theorem mq_l1s {k} (h : MA X E es ka) : MA X E (.List [.Constant (.str x) k q] p :: es) (sCons (sZ (sA gLst (sCons (sC (.str x)) sNil))) ka) := ma_cons (me_z (me_lst (ma_cons me_str ma_nil star_const))) h star_list
theorem mq_t1s {k l} (h : MA X E es ka) : MA X E (.Tuple [.Constant (.str x) k q] l p :: es) (sCons (sA gTup (sCons (sC (.str x)) sNil)) ka) := ma_cons (me_tup (ma_cons me_str ma_nil star_const)) h star_tuple
theorem mq_i (i : Int) {j} (h : MA X E es ka) : MA X E (.Constant (.int i) j p :: es) (sCons (sC (.int i)) ka) := ma_cons me_int h star_const
theorem mq_pow (a b : Int) {i j} {pa pb : Pos} (h : MA X E es ka) : MA X E (.BinOp (.Constant (.int a) i pa) .Pow (.Constant (.int b) j pb) p :: es) (sCons (s2 gPow (sC (.int a)) (sC (.int b))) ka) := ma_cons (me_pow me_int me_int) h star_bin
theorem mq_bl {a : Bool} {j} (h : MA X E es ka) : MA X E (.Constant (.bool a) j p :: es) (sCons (sC (.bl a)) ka) := ma_cons me_bl h star_const
theorem mq_non {j} (h : MA X E es ka) : MA X E (.Constant .none j p :: es) (sCons (sC .non) ka) := ma_cons me_non h star_const
end
end MI
set_option Elab.async false
set_option linter.all false
set_option maxRecDepth 100000
set_option maxHeartbeats 4000000
namespace K21
open PySem PySem.Spec L2 MI
def top (i : Nat) : Stmt := PySem.Challenge.pw_nearreach_k21_rooms_and_kinds_of_words.main.body.getD i (.Pass ⟨0, 0, 0, 0⟩)
structure Nm (mg : Str → Option Value) : Prop where
  ValueError : mg "ValueError" = none
  abs : mg "abs" = none
  all : mg "all" = none
  bool : mg "bool" = none
  enumerate : mg "enumerate" = none
  int : mg "int" = none
  isinstance : mg "isinstance" = none
  len : mg "len" = none
  list : mg "list" = none
  range : mg "range" = none
  str : mg "str" = none
  tuple : mg "tuple" = none
structure Xn (K : PySem.W.Frag) (mg : Str → Option Value) (y_NoText y_ReachError y_Closed y_NoBook y_NoTable y_NoWord : Addr) : Prop where
  g_NoText : mg "NoText" = some (.ref y_NoText)
  g_ReachError : mg "ReachError" = some (.ref y_ReachError)
  g_Closed : mg "Closed" = some (.ref y_Closed)
  g_NoBook : mg "NoBook" = some (.ref y_NoBook)
  g_NoTable : mg "NoTable" = some (.ref y_NoTable)
  g_NoWord : mg "NoWord" = some (.ref y_NoWord)
  n_NoText : PySem.W.nsIn K mainGlobals "NoText" = some (some (.ref y_NoText))
  c_NoText : XCls K y_NoText
  k_NoText : XKit K y_NoText
  e_NoText_ReachError : PySem.W.exmOne K (.ref y_NoText) (.ref y_ReachError) = some true
  i_NoText_ValueError : PySem.W.kitOne K (.ref y_NoText) (.type "ValueError") = some true
  i_NoText_NoText : PySem.W.kitOne K (.ref y_NoText) (.ref y_NoText) = some true
  i_NoText_Closed_NoBook_NoTable_NoWord : PySem.W.kitAny K (.ref y_NoText) [.ref y_Closed, .ref y_NoBook, .ref y_NoTable, .ref y_NoWord] = some false
section
variable {K : PySem.W.Frag} {mg : Str → Option Value} {y_NoText y_ReachError y_Closed y_NoBook y_NoTable y_NoWord : Addr}
theorem hcs_ReachError (Z : Xn K mg y_NoText y_ReachError y_Closed y_NoBook y_NoTable y_NoWord) : ∀ c, cs_ReachError c = true → ∃ C, mg c = some (.ref C) ∧ PySem.W.nsIn K mainGlobals c = some (some (.ref C)) ∧ PySem.W.exmOne K (.ref C) (.ref y_ReachError) = some true := by
  intro c h
  simp only [cs_ReachError, Bool.or_eq_true, decide_eq_true_eq] at h
  subst h
  · exact ⟨_, Z.g_NoText, Z.n_NoText, Z.e_NoText_ReachError⟩
theorem hf_ValueError (Z : Xn K mg y_NoText y_ReachError y_Closed y_NoBook y_NoTable y_NoWord) : ∀ c b C, x_ValueError c = some b → PySem.W.nsIn K mainGlobals c = some (some (.ref C)) → XKit K C ∧ PySem.W.kitOne K (.ref C) (.type "ValueError") = some b := by
  intro c b C h q
  unfold x_ValueError at h
  by_cases e_NoText : c = "NoText"
  · subst e_NoText; rw [if_pos rfl] at h; cases h; cases Z.n_NoText.symm.trans q; exact ⟨Z.k_NoText, Z.i_NoText_ValueError⟩
  rw [if_neg e_NoText] at h
  cases h
theorem hf_NoText (Z : Xn K mg y_NoText y_ReachError y_Closed y_NoBook y_NoTable y_NoWord) : ∀ c b C, x_NoText c = some b → PySem.W.nsIn K mainGlobals c = some (some (.ref C)) → XKit K C ∧ PySem.W.kitOne K (.ref C) (.ref y_NoText) = some b := by
  intro c b C h q
  unfold x_NoText at h
  by_cases e_NoText : c = "NoText"
  · subst e_NoText; rw [if_pos rfl] at h; cases h; cases Z.n_NoText.symm.trans q; exact ⟨Z.k_NoText, Z.i_NoText_NoText⟩
  rw [if_neg e_NoText] at h
  cases h
theorem hf_Closed_NoBook_NoTable_NoWord (Z : Xn K mg y_NoText y_ReachError y_Closed y_NoBook y_NoTable y_NoWord) : ∀ c b C, x_Closed_NoBook_NoTable_NoWord c = some b → PySem.W.nsIn K mainGlobals c = some (some (.ref C)) → XKit K C ∧ PySem.W.kitAny K (.ref C) ([y_Closed, y_NoBook, y_NoTable, y_NoWord].map Value.ref) = some b := by
  intro c b C h q
  unfold x_Closed_NoBook_NoTable_NoWord at h
  by_cases e_NoText : c = "NoText"
  · subst e_NoText; rw [if_pos rfl] at h; cases h; cases Z.n_NoText.symm.trans q; exact ⟨Z.k_NoText, Z.i_NoText_Closed_NoBook_NoTable_NoWord⟩
  rw [if_neg e_NoText] at h
  cases h
end
section
variable {P : Program} {w : World} {K : PySem.W.Frag} {mg : Str → Option Value} {base : Heap} {f : Addr}
theorem sc_0 : FnScope ["tongue", "thing"] ["tongue", "thing"] (defScope (top 8)) := ⟨rfl, rfl, rfl, by decide +kernel, rfl, by decide +kernel, by decide +kernel⟩
theorem m_0 {k : Nat} (M : Nm mg) (cdv : Value) (A : Around) (outer : List Env) (s : Shared) (H : Hp) (E : XK) (hr : Room k (A.deeper (PyProof.Rows.envOfC "is_text" (defScope (top 8)) s.heap.objs.size f cdv))) : MSs (cxOf CX0 P w K mg base ["tongue", "thing"] "is_text" (defScope (top 8)) f cdv A outer s H E).nox X0 (defBody (top 8)) (b_is_text) :=
 have SC := sc_0
 (mss_one (ms_ret (me_and (me_fn (L2.CallR.or call_isinst call_isinstD) snd_isiR rfl M.isinstance bt_isinstance (ma_cons (me_v 1) (ma_cons (me_ty rfl M.str bt_str) ma_nil))) (me_one (me_fn (call_all_bl rfl) snd_all rfl M.all bt_all (ma_cons (me_z (me_comp rfl (CSc.of (ts := ["sign"]) (fr := ["tongue"]) (ix := [0]) rfl rfl rfl rfl (by intro p hp; cases List.mem_singleton.mp hp; rfl) rfl rfl rfl rfl) (mi_seq (me_v 1)) (fun _ _ _ _ => (pg_name (i := 0) (show (["sign", "tongue"] : List Str).Nodup by decide +kernel) rfl (Or.inl rfl) (.inr rfl))) tg_one (fun _ _ _ _ => (me_cmpO (op_in_1.or op_in_seq) snd_in0 (me_v 0) (me_v 1) (by with_unfolding_all rfl))))) ma_nil))))))
theorem sc_1 : FnScope ["tongue", "thing"] ["tongue", "thing"] (defScope (top 10)) := ⟨rfl, rfl, rfl, by decide +kernel, rfl, by decide +kernel, by decide +kernel⟩
theorem m_1 {k : Nat} {y_NoText y_ReachError y_Closed y_NoBook y_NoTable y_NoWord : Addr} (Z : Xn K mg y_NoText y_ReachError y_Closed y_NoBook y_NoTable y_NoWord) {a_0 : Addr} {d_0 : FuncData} {k_0 : Nat} {F_0 : SF} (D_0 : Dn P w K mg base k_0 "is_text" ["tongue", "thing"] (spOf K 2 F_0) a_0 d_0) (h_0 : k_0 ≤ k) (cdv : Value) (A : Around) (outer : List Env) (s : Shared) (H : Hp) (E : XK) (hr : Room k (A.deeper (PyProof.Rows.envOfC "looked_text" (defScope (top 10)) s.heap.objs.size f cdv))) : MSs (cxE P w K mg base ["tongue", "thing"] "looked_text" (defScope (top 10)) f cdv A outer s H E) (xdOf mg E) (defBody (top 10)) (b_looked_text F_0) :=
 have SC := sc_1
 (mss_cons (ms_if (mt_not (mt_val (me_callE false D_0 (hr.mono h_0) rfl (ma_cons (me_v 0) (ma_cons (me_v 1) ma_nil)))))
  (mss_one (ms_raise Z.c_NoText rfl Z.g_NoText (ma_cons me_str ma_nil)))
  mss_nil)
 (mss_one (ms_ret (me_v 1))))
theorem sc_2 : FnScope ["table", "word"] ["table", "word"] (defScope (top 11)) := ⟨rfl, rfl, rfl, by decide +kernel, rfl, by decide +kernel, by decide +kernel⟩
theorem m_2 {k : Nat} {a_1 : Addr} {d_1 : FuncData} {k_1 : Nat} {F_1 : SF} (D_1 : DnX P w K mg base k_1 "looked_text" ["tongue", "thing"] (spX K mg 2 F_1) a_1 d_1) (h_1 : k_1 ≤ k) {a_4 : Addr} {d_4 : FuncData} {k_4 : Nat} {F_4 : SF} (D_4 : Dn P w K mg base k_4 "room_from" ["table", "room", "word"] (spOf K 3 F_4) a_4 d_4) (h_4 : k_4 ≤ k) (cdv : Value) (A : Around) (outer : List Env) (s : Shared) (H : Hp) (E : XK) (hr : Room k (A.deeper (PyProof.Rows.envOfC "room_of" (defScope (top 11)) s.heap.objs.size f cdv))) : MSs (cxE P w K mg base ["table", "word"] "room_of" (defScope (top 11)) f cdv A outer s H E) (xdOf mg E) (defBody (top 11)) (b_room_of F_1 F_4) :=
 have SC := sc_2
 (mss_one (ms_ret (me_callE false D_4 (hr.mono h_4) rfl (ma_cons (me_v 0) (ma_cons me_int (ma_cons (me_callX D_1 (hr.mono h_1) rfl (ma_cons (me_item (me_v 0) me_int (fun _ _ => rfl)) (ma_cons (me_v 1) ma_nil))) ma_nil))))))
theorem sc_3 : FnScope ["table", "word", "room"] ["table", "word"] (defScope (top 12)) := ⟨rfl, rfl, rfl, by decide +kernel, rfl, by decide +kernel, by decide +kernel⟩
theorem m_3 {k : Nat} {a_2 : Addr} {d_2 : FuncData} {k_2 : Nat} {F_2 : SF} (D_2 : DnX P w K mg base k_2 "room_of" ["table", "word"] (spX K mg 2 F_2) a_2 d_2) (h_2 : k_2 ≤ k) (cdv : Value) (A : Around) (outer : List Env) (s : Shared) (H : Hp) (E : XK) (hr : Room k (A.deeper (PyProof.Rows.envOfC "kind_of" (defScope (top 12)) s.heap.objs.size f cdv))) : MSs (cxE P w K mg base ["table", "word", "room"] "kind_of" (defScope (top 12)) f cdv A outer s H E) (xdOf mg E) (defBody (top 12)) (b_kind_of F_2) :=
 have SC := sc_3
 (mss_cons (ms_set (i := 2) SC.nd rfl (Or.inl rfl) (me_callX D_2 (hr.mono h_2) rfl (ma_cons (me_v 0) (ma_cons (me_v 1) ma_nil))))
 (mss_one (ms_ret (me_item (me_item (me_v 0) me_int (fun _ _ => rfl)) (me_v 2) (fun _ _ => rfl)))))
theorem sc_4 : FnScope ["table", "room", "word"] ["table", "room", "word"] (defScope (top 13)) := ⟨rfl, rfl, rfl, by decide +kernel, rfl, by decide +kernel, by decide +kernel⟩
theorem m_4 {k : Nat} {a_5 : Addr} {d_5 : FuncData} {k_5 : Nat} {F_5 : SF} (D_5 : Dn P w K mg base k_5 "rooms_along" ["table", "room", "word"] (spOf K 3 F_5) a_5 d_5) (h_5 : k_5 ≤ k) (cdv : Value) (A : Around) (outer : List Env) (s : Shared) (H : Hp) (E : XK) (hr : Room k (A.deeper (PyProof.Rows.envOfC "room_from" (defScope (top 13)) s.heap.objs.size f cdv))) : MSs (cxOf CX0 P w K mg base ["table", "room", "word"] "room_from" (defScope (top 13)) f cdv A outer s H E).nox X0 (defBody (top 13)) (b_room_from F_5) :=
 have SC := sc_4
 (mss_one (ms_ret (me_item (me_callL false D_5 (hr.mono h_5) rfl (ma_cons (me_v 0) (ma_cons (me_v 1) (ma_cons (me_v 2) ma_nil)))) (me_neg me_int) (fun _ _ => rfl))))
theorem sc_5 : FnScope ["table", "room", "word", "tongue", "goes", "kinds", "rooms", "sign"] ["table", "room", "word"] (defScope (top 14)) := ⟨rfl, rfl, rfl, by decide +kernel, rfl, by decide +kernel, by decide +kernel⟩
theorem m_5 {k : Nat} (cdv : Value) (A : Around) (outer : List Env) (s : Shared) (H : Hp) (E : XK) (hr : Room k (A.deeper (PyProof.Rows.envOfC "rooms_along" (defScope (top 14)) s.heap.objs.size f cdv))) : MSs (cxOf CX0 P w K mg base ["table", "room", "word", "tongue", "goes", "kinds", "rooms", "sign"] "rooms_along" (defScope (top 14)) f cdv A outer s H E).nox X0 (defBody (top 14)) (b_rooms_along) :=
 have SC := sc_5
 (mss_cons (ms_asg (me_v 0) (mg_tup rfl (mgs_cons (mg_name (i := 3) SC.nd rfl (Or.inl rfl)) (mgs_cons (mg_name (i := 4) SC.nd rfl (Or.inl rfl)) (mgs_cons (mg_name (i := 5) SC.nd rfl (Or.inl rfl)) mgs_nil)))))
 (mss_cons (ms_set (i := 6) SC.nd rfl (Or.inl rfl) (me_lst (ma_cons (me_v 1) ma_nil)))
 (mss_cons (ms_for PassesOwn.never rfl (mi_seq (me_v 2)) (mg_name (i := 7) SC.nd rfl (Or.inl rfl)) (mss_one (ms_expr (me_ml PySem.F.slot_list_append PySem.F.type_list_append mt_append snd_app (me_v 6) (ma_cons (me_item (me_item (me_v 4) (me_item (me_v 6) (me_neg me_int) (fun _ _ => rfl)) (fun _ _ => rfl)) (me_ms PySem.F.slot_str_index PySem.F.type_str_index mt_index snd_index (me_v 3) (ma_cons (me_v 7) ma_nil)) (fun _ _ => rfl)) ma_nil)))))
 (mss_one (ms_ret (me_v 6))))))
theorem sc_6 : FnScope ["_law_script"] ["_law_script"] (defScope (top 16)) := ⟨rfl, rfl, rfl, by decide +kernel, rfl, by decide +kernel, by decide +kernel⟩
theorem m_6 {k : Nat} (M : Nm mg) (cdv : Value) (A : Around) (outer : List Env) (s : Shared) (H : Hp) (E : XK) (hr : Room k (A.deeper (PyProof.Rows.envOfC "_law_hand" (defScope (top 16)) s.heap.objs.size f cdv))) : MSs (cxOf CX0 P w K mg base ["_law_script"] "_law_hand" (defScope (top 16)) f cdv A outer s H E).nox X0 (defBody (top 16)) (HND.b_law_hand) :=
 have SC := sc_6
 (mss_one (ms_ret (me_lst (ma_cons (me_z (me_fnTy (L2.CallR.or call_list_of (call_list_s rfl)) snd_list rfl M.list bt_list (ma_cons (me_z (me_slice2 (me_v 0) mo_none (mo_some me_int))) ma_nil))) (ma_cons me_int (ma_cons me_int (ma_cons me_int (ma_cons me_int ma_nil))))))))
theorem sc_7 : FnScope ["_law_hand_here", "_law_many", "_law_cell", "_law_told"] ["_law_hand_here", "_law_many"] (defScope (top 17)) := ⟨rfl, rfl, rfl, by decide +kernel, rfl, by decide +kernel, by decide +kernel⟩
theorem m_7 {k : Nat} (M : Nm mg) (cdv : Value) (A : Around) (outer : List Env) (s : Shared) (H : Hp) (E : XK) (hr : Room k (A.deeper (PyProof.Rows.envOfC "_law_take" (defScope (top 17)) s.heap.objs.size f cdv))) : MSs (cxOf CX0 P w K mg base ["_law_hand_here", "_law_many", "_law_cell", "_law_told"] "_law_take" (defScope (top 17)) f cdv A outer s H E).nox X0 (defBody (top 17)) (HND.b_law_take) :=
 have SC := sc_7
 (mss_cons (ms_if (mt_cmpO (op_lt.or op_lt_str) snd_lt (me_v 1) me_int (nomark _))
  (mss_one (ms_ret me_int))
  mss_nil)
 (mss_cons (ms_if (PW.pt (mw_and (mt_cmpO (op_eqD hr.u) snd_eqD (me_item (me_v 0) me_int (fun _ _ => rfl)) me_int (nomark _)) (mw_and1 (mt_cmpO (op_lt.or op_lt_str) snd_lt (me_item (me_v 0) me_int (fun _ _ => rfl)) (me_fn (L2.CallR.or call_len_seq call_len_str) snd_len rfl M.len bt_len (ma_cons (me_item (me_v 0) me_int (fun _ _ => rfl)) ma_nil)) (nomark _)))))
  (mss_cons (ms_set (i := 2) SC.nd rfl (Or.inl rfl) (me_item (me_item (me_v 0) me_int (fun _ _ => rfl)) (me_item (me_v 0) me_int (fun _ _ => rfl)) (fun _ _ => rfl)))
 (mss_cons (ms_augS (me_v 0) me_int me_int (iop_add.or iop_add_str) snd_iadd)
 (mss_cons (ms_put (me_mod (me_addR (me_mulR (me_item (me_v 0) me_int (fun _ _ => rfl)) me_int) (me_v 2)) me_int) (me_v 0) me_int)
 (mss_one (ms_if (mt_cmpO op_ge snd_ge (me_fn call_abs snd_abs rfl M.abs bt_abs (ma_cons (me_v 2) ma_nil)) (me_pow me_int me_int) (nomark _))
  (mss_one (ms_put (me_fn call_abs snd_abs rfl M.abs bt_abs (ma_cons (me_v 2) ma_nil)) (me_v 0) me_int))
  mss_nil)))))
  mss_nil)
 (mss_cons (ms_if (mt_cmpO op_gt snd_gt (me_item (me_v 0) me_int (fun _ _ => rfl)) me_int (nomark _))
  (mss_cons (ms_set (i := 3) SC.nd rfl (Or.inl rfl) (me_mod (me_item (me_v 0) me_int (fun _ _ => rfl)) (me_v 1)))
 (mss_cons (ms_put (me_div (me_item (me_v 0) me_int (fun _ _ => rfl)) (me_v 1)) (me_v 0) me_int)
 (mss_one (ms_ret (me_v 3)))))
  mss_nil)
 (mss_cons (ms_augS (me_v 0) me_int me_int (iop_add.or iop_add_str) snd_iadd)
 (mss_one (ms_ret (me_mod (me_div (me_mod (me_pow (me_addR (me_item (me_v 0) me_int (fun _ _ => rfl)) (me_mulR me_int (me_item (me_v 0) me_int (fun _ _ => rfl)))) me_int) me_int) me_int) (me_v 1))))))))
theorem sc_8 : FnScope ["_law_some"] [] (defScope (top 18)) := ⟨rfl, rfl, rfl, by decide +kernel, rfl, by decide +kernel, by decide +kernel⟩
theorem m_8 {k : Nat} (cdv : Value) (A : Around) (outer : List Env) (s : Shared) (H : Hp) (E : XK) (hr : Room k (A.deeper (PyProof.Rows.envOfC "_law_signs" (defScope (top 18)) s.heap.objs.size f cdv))) : MSs (cxOf CX0 P w K mg base ["_law_some"] "_law_signs" (defScope (top 18)) f cdv A outer s H E).nox X0 (defBody (top 18)) (b_law_signs) :=
 have SC := sc_8
 (mss_cons (ms_set (i := 0) SC.nd rfl (Or.inl rfl) me_str)
 (mss_one (ms_ret (me_addR (me_v 0) me_str))))
theorem sc_9 : FnScope ["_law_hand_here", "_law_rest", "_law_tongue_here", "_law_turn", "_law_at"] ["_law_hand_here"] (defScope (top 19)) := ⟨rfl, rfl, rfl, by decide +kernel, rfl, by decide +kernel, by decide +kernel⟩
theorem m_9 {k : Nat} (M : Nm mg) {a_8 : Addr} {d_8 : FuncData} {k_8 : Nat} {F_8 : SF} (D_8 : Dn P w K mg base k_8 "_law_signs" [] (spOf K 0 F_8) a_8 d_8) (h_8 : k_8 ≤ k) {a_7 : Addr} {d_7 : FuncData} {k_7 : Nat} {F_7 : SF} (D_7 : Dn P w K mg base k_7 "_law_take" ["_law_hand_here", "_law_many"] (spOf K 2 F_7) a_7 d_7) (h_7 : k_7 ≤ k) (cdv : Value) (A : Around) (outer : List Env) (s : Shared) (H : Hp) (E : XK) (hr : Room k (A.deeper (PyProof.Rows.envOfC "_law_tongue" (defScope (top 19)) s.heap.objs.size f cdv))) : MSs (cxOf CX0 P w K mg base ["_law_hand_here", "_law_rest", "_law_tongue_here", "_law_turn", "_law_at"] "_law_tongue" (defScope (top 19)) f cdv A outer s H E).nox X0 (defBody (top 19)) (b_law_tongue F_8 F_7) :=
 have SC := sc_9
 (mss_cons (ms_set (i := 1) SC.nd rfl (Or.inl rfl) (me_callL0 false D_8 (hr.mono h_8) rfl))
 (mss_cons (ms_set (i := 2) SC.nd rfl (Or.inl rfl) me_str)
 (mss_cons (ms_for PassesOwn.never rfl (mi_rng1 rfl M.range (ma_cons (me_addR me_int (me_callL false D_7 (hr.mono h_7) rfl (ma_cons (me_v 0) (ma_cons me_int ma_nil)))) ma_nil)) (mg_name (i := 3) SC.nd rfl (Or.inl rfl)) (mss_cons (ms_set (i := 4) SC.nd rfl (Or.inl rfl) (me_callL false D_7 (hr.mono h_7) rfl (ma_cons (me_v 0) (ma_cons (me_fn (L2.CallR.or call_len_seq call_len_str) snd_len rfl M.len bt_len (ma_cons (me_v 1) ma_nil)) ma_nil))))
 (mss_cons (ms_set (i := 2) SC.nd rfl (Or.inl rfl) (me_addR (me_v 2) (me_item (me_v 1) (me_v 4) (fun _ _ => rfl))))
 (mss_one (ms_set (i := 1) SC.nd rfl (Or.inl rfl) (me_addR (me_slice2 (me_v 1) mo_none (mo_some (me_v 4))) (me_slice2 (me_v 1) (mo_some (me_addR (me_v 4) me_int)) mo_none)))))))
 (mss_one (ms_ret (me_v 2))))))
theorem sc_10 : FnScope ["_law_hand_here", "_law_size", "_law_rooms", "_law_manner", "_law_free", "_law_goes_here", "_law_room", "_law_pick", "_law_one", "_law_at"] ["_law_hand_here", "_law_size", "_law_rooms"] (defScope (top 20)) := ⟨rfl, rfl, rfl, by decide +kernel, rfl, by decide +kernel, by decide +kernel⟩
theorem m_10 {k : Nat} (M : Nm mg) {a_7 : Addr} {d_7 : FuncData} {k_7 : Nat} {F_7 : SF} (D_7 : Dn P w K mg base k_7 "_law_take" ["_law_hand_here", "_law_many"] (spOf K 2 F_7) a_7 d_7) (h_7 : k_7 ≤ k) (cdv : Value) (A : Around) (outer : List Env) (s : Shared) (H : Hp) (E : XK) (hr : Room k (A.deeper (PyProof.Rows.envOfC "_law_goes" (defScope (top 20)) s.heap.objs.size f cdv))) : MSs (cxOf CX0 P w K mg base ["_law_hand_here", "_law_size", "_law_rooms", "_law_manner", "_law_free", "_law_goes_here", "_law_room", "_law_pick", "_law_one", "_law_at"] "_law_goes" (defScope (top 20)) f cdv A outer s H E).nox X0 (defBody (top 20)) (HND.b_law_goes F_7) :=
 have SC := sc_10
 (mss_cons (ms_set (i := 3) SC.nd rfl (Or.inl rfl) (me_callL false D_7 (hr.mono h_7) rfl (ma_cons (me_v 0) (ma_cons me_int ma_nil))))
 (mss_cons (ms_setC (i := 4) SC.nd rfl (Or.inl rfl) rfl (CSc.noFree (ts := ["_law_at"]) rfl (by decide +kernel) (by decide +kernel) (by decide +kernel)) (mi_rng1 rfl M.range (ma_cons (me_v 1) ma_nil)) (fun _ _ _ _ => (pg_name (i := 0) (show (["_law_at"] : List Str).Nodup by decide +kernel) rfl (Or.inl rfl) (.inr rfl))) tg_one (fun _ _ _ _ => (me_tup (ma_cons me_int (ma_cons (me_v 0) ma_nil)))))
 (mss_cons (ms_set (i := 5) SC.nd rfl (Or.inl rfl) (me_lst (ma_cons (me_mulR (me_z (me_lst (ma_cons me_int ma_nil))) (me_v 1)) ma_nil)))
 (mss_cons (ms_for PassesOwn.never rfl (mi_rng2 rfl M.range (ma_cons me_int (ma_cons (me_v 2) ma_nil))) (mg_name (i := 6) SC.nd rfl (Or.inr rfl)) (mss_cons (ms_set (i := 7) SC.nd rfl (Or.inl rfl) (me_sub (me_sub (me_fn (L2.CallR.or call_len_seq call_len_str) snd_len rfl M.len bt_len (ma_cons (me_v 4) ma_nil)) me_int) (me_callL false D_7 (hr.mono h_7) rfl (ma_cons (me_v 0) (ma_cons (me_v 1) ma_nil)))))
 (mss_cons (ms_if (mt_cmpO (op_eqD hr.u) snd_eqD (me_v 3) me_int (nomark _))
  (mss_one (ms_set (i := 7) SC.nd rfl (Or.inl rfl) (me_callL false D_7 (hr.mono h_7) rfl (ma_cons (me_v 0) (ma_cons (me_fn (L2.CallR.or call_len_seq call_len_str) snd_len rfl M.len bt_len (ma_cons (me_v 4) ma_nil)) ma_nil)))))
  mss_nil)
 (mss_cons (ms_asg (me_ml PySem.F.slot_list_pop PySem.F.type_list_pop mt_popAt snd_popAt (me_v 4) (ma_cons (me_v 7) ma_nil)) (mg_tup rfl (mgs_cons (mg_name (i := 8) SC.nd rfl (Or.inl rfl)) (mgs_cons (mg_name (i := 9) SC.nd rfl (Or.inl rfl)) mgs_nil))))
 (mss_cons (ms_put (me_v 6) (me_item (me_v 5) (me_v 8) (fun _ _ => rfl)) (me_v 9))
 (mss_cons (ms_expr (me_ml PySem.F.slot_list_append PySem.F.type_list_append mt_append snd_app (me_v 5) (ma_cons (me_mulR (me_z (me_lst (ma_cons me_int ma_nil))) (me_v 1)) ma_nil)))
 (mss_one (ms_expr (me_ml PySem.F.slot_list_extend PySem.F.type_list_extend (MtR.or mt_extendR mt_extendT) snd_extR (me_v 4) (ma_cons (me_z (me_comp rfl (CSc.of (ts := ["_law_k"]) (fr := ["_law_room"]) (ix := [6]) rfl rfl rfl rfl (by intro p hp; cases List.mem_singleton.mp hp; rfl) rfl rfl rfl rfl) (mi_rng1 rfl M.range (ma_cons (me_v 1) ma_nil)) (fun _ _ _ _ => (pg_name (i := 0) (show (["_law_k", "_law_room"] : List Str).Nodup by decide +kernel) rfl (Or.inl rfl) (.inr rfl))) tg_one (fun _ _ _ _ => (me_tup (ma_cons (me_v 1) (ma_cons (me_v 0) ma_nil)))))) ma_nil))))))))))
 (mss_cons (ms_for PassesOwn.never rfl (mi_seq (me_v 4)) (mg_tup rfl (mgs_cons (mg_name (i := 8) SC.nd rfl (Or.inl rfl)) (mgs_cons (mg_name (i := 9) SC.nd rfl (Or.inl rfl)) mgs_nil))) (mss_one (ms_put (me_callL false D_7 (hr.mono h_7) rfl (ma_cons (me_v 0) (ma_cons (me_v 2) ma_nil))) (me_item (me_v 5) (me_v 8) (fun _ _ => rfl)) (me_v 9))))
 (mss_one (ms_ret (me_v 5))))))))
theorem sc_11 : FnScope ["_law_hand_here", "_law_rooms", "_law_manner", "_law_kinds_here", "_law_room", "_law_kind"] ["_law_hand_here", "_law_rooms"] (defScope (top 21)) := ⟨rfl, rfl, rfl, by decide +kernel, rfl, by decide +kernel, by decide +kernel⟩
theorem m_11 {k : Nat} (M : Nm mg) {a_7 : Addr} {d_7 : FuncData} {k_7 : Nat} {F_7 : SF} (D_7 : Dn P w K mg base k_7 "_law_take" ["_law_hand_here", "_law_many"] (spOf K 2 F_7) a_7 d_7) (h_7 : k_7 ≤ k) (cdv : Value) (A : Around) (outer : List Env) (s : Shared) (H : Hp) (E : XK) (hr : Room k (A.deeper (PyProof.Rows.envOfC "_law_kinds" (defScope (top 21)) s.heap.objs.size f cdv))) : MSs (cxOf CX0 P w K mg base ["_law_hand_here", "_law_rooms", "_law_manner", "_law_kinds_here", "_law_room", "_law_kind"] "_law_kinds" (defScope (top 21)) f cdv A outer s H E).nox X0 (defBody (top 21)) (HND.b_law_kinds F_7) :=
 have SC := sc_11
 (mss_cons (ms_set (i := 2) SC.nd rfl (Or.inl rfl) (me_callL false D_7 (hr.mono h_7) rfl (ma_cons (me_v 0) (ma_cons me_int ma_nil))))
 (mss_cons (ms_set (i := 3) SC.nd rfl (Or.inl rfl) (me_lst (ma_cons (me_neg me_int) ma_nil)))
 (mss_cons (ms_for PassesOwn.never rfl (mi_rng2 rfl M.range (ma_cons me_int (ma_cons (me_v 1) ma_nil))) (mg_name (i := 4) SC.nd rfl (Or.inl rfl)) (mss_cons (ms_set (i := 5) SC.nd rfl (Or.inl rfl) (me_sub (me_callL false D_7 (hr.mono h_7) rfl (ma_cons (me_v 0) (ma_cons me_int ma_nil))) me_int))
 (mss_cons (ms_if (mt_cmpO (op_eqD hr.u) snd_eqD (me_v 2) me_int (nomark _))
  (mss_one (ms_set (i := 5) SC.nd rfl (Or.inl rfl) (me_div (me_v 5) me_int)))
  mss_nil)
 (mss_cons (ms_if (PW.pt (mw_and (mt_cmpO (op_eqD hr.u) snd_eqD (me_v 2) me_int (nomark _)) (mw_and1 (mt_cmpO op_gt snd_gt (me_callL false D_7 (hr.mono h_7) rfl (ma_cons (me_v 0) (ma_cons me_int ma_nil))) me_int (nomark _)))))
  (mss_one (ms_set (i := 5) SC.nd rfl (Or.inl rfl) (me_neg me_int)))
  mss_nil)
 (mss_one (ms_expr (me_ml PySem.F.slot_list_append PySem.F.type_list_append mt_append snd_app (me_v 3) (ma_cons (me_v 5) ma_nil))))))))
 (mss_one (ms_ret (me_v 3))))))
theorem sc_12 : FnScope ["_law_hand_here", "_law_goes_here", "_law_kinds_here", "_law_rest", "_law_places", "_law_rows", "_law_told", "_law_room", "_law_row"] ["_law_hand_here", "_law_goes_here", "_law_kinds_here"] (defScope (top 22)) := ⟨rfl, rfl, rfl, by decide +kernel, rfl, by decide +kernel, by decide +kernel⟩
theorem m_12 {k : Nat} (M : Nm mg) {a_7 : Addr} {d_7 : FuncData} {k_7 : Nat} {F_7 : SF} (D_7 : Dn P w K mg base k_7 "_law_take" ["_law_hand_here", "_law_many"] (spOf K 2 F_7) a_7 d_7) (h_7 : k_7 ≤ k) (cdv : Value) (A : Around) (outer : List Env) (s : Shared) (H : Hp) (E : XK) (hr : Room k (A.deeper (PyProof.Rows.envOfC "_law_shuffled" (defScope (top 22)) s.heap.objs.size f cdv))) : MSs (cxOf CX0 P w K mg base ["_law_hand_here", "_law_goes_here", "_law_kinds_here", "_law_rest", "_law_places", "_law_rows", "_law_told", "_law_room", "_law_row"] "_law_shuffled" (defScope (top 22)) f cdv A outer s H E).nox X0 (defBody (top 22)) (HND.b_law_shuffled F_7) :=
 have SC := sc_12
 (mss_cons (ms_set (i := 3) SC.nd rfl (Or.inl rfl) (me_lrng2 rfl rfl M.list rfl M.range (ma_cons me_int (ma_cons (me_fn (L2.CallR.or call_len_seq call_len_str) snd_len rfl M.len bt_len (ma_cons (me_v 1) ma_nil)) ma_nil))))
 (mss_cons (ms_set (i := 4) SC.nd rfl (Or.inr rfl) (me_lst (ma_cons me_int ma_nil)))
 (mss_cons (ms_while 100000 PassesOwn.never (mt_cmpO op_gt snd_gt (me_fn (L2.CallR.or call_len_seq call_len_str) snd_len rfl M.len bt_len (ma_cons (me_v 3) ma_nil)) me_int (nomark _)) (mss_one (ms_expr (me_ml PySem.F.slot_list_append PySem.F.type_list_append mt_append snd_app (me_v 4) (ma_cons (me_ml PySem.F.slot_list_pop PySem.F.type_list_pop mt_popAt snd_popAt (me_v 3) (ma_cons (me_callL false D_7 (hr.mono h_7) rfl (ma_cons (me_v 0) (ma_cons (me_fn (L2.CallR.or call_len_seq call_len_str) snd_len rfl M.len bt_len (ma_cons (me_v 3) ma_nil)) ma_nil))) ma_nil)) ma_nil)))))
 (mss_cons (ms_setC (i := 5) SC.nd rfl (Or.inl rfl) rfl (CSc.noFree (ts := ["_law_room"]) rfl (by decide +kernel) (by decide +kernel) (by decide +kernel)) (mi_seq (me_v 1)) (fun _ _ _ _ => (pg_name (i := 0) (show (["_law_room"] : List Str).Nodup by decide +kernel) rfl (Or.inl rfl) (.inr rfl))) tg_one (fun _ _ _ _ => (me_tup ma_nil)))
 (mss_cons (ms_setC (i := 6) SC.nd rfl (Or.inl rfl) rfl (CSc.noFree (ts := ["_law_room"]) rfl (by decide +kernel) (by decide +kernel) (by decide +kernel)) (mi_seq (me_v 1)) (fun _ _ _ _ => (pg_name (i := 0) (show (["_law_room"] : List Str).Nodup by decide +kernel) rfl (Or.inl rfl) (.inr rfl))) tg_one (fun _ _ _ _ => (me_neg me_int)))
 (mss_cons (ms_for PassesOwn.never rfl (mi_enum rfl M.enumerate (me_v 1)) (mg_tup rfl (mgs_cons (mg_name (i := 7) SC.nd rfl (Or.inl rfl)) (mgs_cons (mg_name (i := 8) SC.nd rfl (Or.inl rfl)) mgs_nil))) (mss_cons (ms_put (me_fnTy (L2.CallR.or call_tuple_of (call_tuple_s rfl)) snd_tuple rfl M.tuple bt_tuple (ma_cons (me_z (me_comp rfl (CSc.of (ts := ["_law_to"]) (fr := ["_law_places"]) (ix := [4]) rfl rfl rfl rfl (by intro p hp; cases List.mem_singleton.mp hp; rfl) rfl rfl rfl rfl) (mi_seq (me_v 8)) (fun _ _ _ _ => (pg_name (i := 0) (show (["_law_to", "_law_places"] : List Str).Nodup by decide +kernel) rfl (Or.inl rfl) (.inr rfl))) tg_one (fun _ _ _ _ => (me_item (me_v 1) (me_v 0) (fun _ _ => rfl))))) ma_nil)) (me_v 5) (me_item (me_v 4) (me_v 7) (fun _ _ => rfl)))
 (mss_one (ms_put (me_item (me_v 2) (me_v 7) (fun _ _ => rfl)) (me_v 6) (me_item (me_v 4) (me_v 7) (fun _ _ => rfl))))))
 (mss_one (ms_ret (me_tup (ma_cons (me_fnTy (L2.CallR.or call_tuple_of (call_tuple_s rfl)) snd_tuple rfl M.tuple bt_tuple (ma_cons (me_v 5) ma_nil)) (ma_cons (me_fnTy (L2.CallR.or call_tuple_of (call_tuple_s rfl)) snd_tuple rfl M.tuple bt_tuple (ma_cons (me_v 6) ma_nil)) ma_nil)))))))))))
theorem sc_13 : FnScope ["_law_hand_here", "_law_tongue_here", "_law_rooms", "_law_goes_here", "_law_kinds_here"] ["_law_hand_here"] (defScope (top 23)) := ⟨rfl, rfl, rfl, by decide +kernel, rfl, by decide +kernel, by decide +kernel⟩
theorem m_13 {k : Nat} (M : Nm mg) {a_10 : Addr} {d_10 : FuncData} {k_10 : Nat} {F_10 : SF} (D_10 : Dn P w K mg base k_10 "_law_goes" ["_law_hand_here", "_law_size", "_law_rooms"] (spOf K 3 F_10) a_10 d_10) (h_10 : k_10 ≤ k) {a_11 : Addr} {d_11 : FuncData} {k_11 : Nat} {F_11 : SF} (D_11 : Dn P w K mg base k_11 "_law_kinds" ["_law_hand_here", "_law_rooms"] (spOf K 2 F_11) a_11 d_11) (h_11 : k_11 ≤ k) {a_12 : Addr} {d_12 : FuncData} {k_12 : Nat} {F_12 : SF} (D_12 : Dn P w K mg base k_12 "_law_shuffled" ["_law_hand_here", "_law_goes_here", "_law_kinds_here"] (spOf K 3 F_12) a_12 d_12) (h_12 : k_12 ≤ k) {a_7 : Addr} {d_7 : FuncData} {k_7 : Nat} {F_7 : SF} (D_7 : Dn P w K mg base k_7 "_law_take" ["_law_hand_here", "_law_many"] (spOf K 2 F_7) a_7 d_7) (h_7 : k_7 ≤ k) {a_9 : Addr} {d_9 : FuncData} {k_9 : Nat} {F_9 : SF} (D_9 : Dn P w K mg base k_9 "_law_tongue" ["_law_hand_here"] (spOf K 1 F_9) a_9 d_9) (h_9 : k_9 ≤ k) (cdv : Value) (A : Around) (outer : List Env) (s : Shared) (H : Hp) (E : XK) (hr : Room k (A.deeper (PyProof.Rows.envOfC "_law_table" (defScope (top 23)) s.heap.objs.size f cdv))) : MSs (cxOf CX0 P w K mg base ["_law_hand_here", "_law_tongue_here", "_law_rooms", "_law_goes_here", "_law_kinds_here"] "_law_table" (defScope (top 23)) f cdv A outer s H E).nox X0 (defBody (top 23)) (b_law_table F_10 F_11 F_12 F_7 F_9) :=
 have SC := sc_13
 (mss_cons (ms_set (i := 1) SC.nd rfl (Or.inl rfl) (me_callL false D_9 (hr.mono h_9) rfl (ma_cons (me_v 0) ma_nil)))
 (mss_cons (ms_set (i := 2) SC.nd rfl (Or.inl rfl) (me_addR me_int (me_callL false D_7 (hr.mono h_7) rfl (ma_cons (me_v 0) (ma_cons me_int ma_nil)))))
 (mss_cons (ms_if (mt_cmpO (op_eqD hr.u) snd_eqD (me_callL false D_7 (hr.mono h_7) rfl (ma_cons (me_v 0) (ma_cons me_int ma_nil))) me_int (nomark _))
  (mss_one (ms_set (i := 2) SC.nd rfl (Or.inl rfl) (me_addR me_int (me_callL false D_7 (hr.mono h_7) rfl (ma_cons (me_v 0) (ma_cons me_int ma_nil))))))
  mss_nil)
 (mss_cons (ms_asg (me_callL false D_12 (hr.mono h_12) rfl (ma_cons (me_v 0) (ma_cons (me_callL false D_10 (hr.mono h_10) rfl (ma_cons (me_v 0) (ma_cons (me_fn (L2.CallR.or call_len_seq call_len_str) snd_len rfl M.len bt_len (ma_cons (me_v 1) ma_nil)) (ma_cons (me_v 2) ma_nil)))) (ma_cons (me_callL false D_11 (hr.mono h_11) rfl (ma_cons (me_v 0) (ma_cons (me_v 2) ma_nil))) ma_nil)))) (mg_tup rfl (mgs_cons (mg_name (i := 3) SC.nd rfl (Or.inl rfl)) (mgs_cons (mg_name (i := 4) SC.nd rfl (Or.inl rfl)) mgs_nil))))
 (mss_one (ms_ret (me_tup (ma_cons (me_v 1) (ma_cons (me_v 3) (ma_cons (me_v 4) ma_nil))))))))))
theorem sc_14 : FnScope ["_law_thing", "_law_low", "_law_high"] ["_law_thing", "_law_low", "_law_high"] (defScope (top 24)) := ⟨rfl, rfl, rfl, by decide +kernel, rfl, by decide +kernel, by decide +kernel⟩
theorem m_14 {k : Nat} (M : Nm mg) (cdv : Value) (A : Around) (outer : List Env) (s : Shared) (H : Hp) (E : XK) (hr : Room k (A.deeper (PyProof.Rows.envOfC "_law_number" (defScope (top 24)) s.heap.objs.size f cdv))) : MSs (cxOf CX0 P w K mg base ["_law_thing", "_law_low", "_law_high"] "_law_number" (defScope (top 24)) f cdv A outer s H E).nox X0 (defBody (top 24)) (b_law_number) :=
 have SC := sc_14
 (mss_one (ms_ret (me_and (me_fn (L2.CallR.or call_isinst call_isinstD) snd_isiR rfl M.isinstance bt_isinstance (ma_cons (me_v 0) (ma_cons (me_ty rfl M.int bt_int) ma_nil))) (me_and (me_not (me_fn (L2.CallR.or call_isinst call_isinstD) snd_isiR rfl M.isinstance bt_isinstance (ma_cons (me_v 0) (ma_cons (me_ty rfl M.bool bt_bool) ma_nil)))) (me_one (me_chain (op_le.or op_le_str) (op_le.or op_le_str) snd_le snd_le (me_v 1) (me_v 0) (me_v 2)))))))
theorem sc_15 : FnScope ["_law_table_here", "_law_room", "_law_word", "_law_sign"] ["_law_table_here", "_law_room", "_law_word"] (defScope (top 25)) := ⟨rfl, rfl, rfl, by decide +kernel, rfl, by decide +kernel, by decide +kernel⟩
theorem m_15 {k : Nat} (cdv : Value) (A : Around) (outer : List Env) (s : Shared) (H : Hp) (E : XK) (hr : Room k (A.deeper (PyProof.Rows.envOfC "_law_led" (defScope (top 25)) s.heap.objs.size f cdv))) : MSs (cxOf CX0 P w K mg base ["_law_table_here", "_law_room", "_law_word", "_law_sign"] "_law_led" (defScope (top 25)) f cdv A outer s H E).nox X0 (defBody (top 25)) (b_law_led) :=
 have SC := sc_15
 (mss_cons (ms_for PassesOwn.never rfl (mi_seq (me_v 2)) (mg_name (i := 3) SC.nd rfl (Or.inl rfl)) (mss_one (ms_set (i := 1) SC.nd rfl (Or.inl rfl) (me_item (me_item (me_item (me_v 0) me_int (fun _ _ => rfl)) (me_v 1) (fun _ _ => rfl)) (me_ms PySem.F.slot_str_find PySem.F.type_str_find mt_find snd_find (me_item (me_v 0) me_int (fun _ _ => rfl)) (ma_cons (me_v 3) ma_nil)) (fun _ _ => rfl)))))
 (mss_one (ms_ret (me_v 1))))
theorem sc_16 : FnScope ["_law_hand_here", "_law_tongue_here", "_law_many"] ["_law_hand_here", "_law_tongue_here"] (defScope (top 26)) := ⟨rfl, rfl, rfl, by decide +kernel, rfl, by decide +kernel, by decide +kernel⟩
theorem m_16 {k : Nat} (M : Nm mg) {a_7 : Addr} {d_7 : FuncData} {k_7 : Nat} {F_7 : SF} (D_7 : Dn P w K mg base k_7 "_law_take" ["_law_hand_here", "_law_many"] (spOf K 2 F_7) a_7 d_7) (h_7 : k_7 ≤ k) (cdv : Value) (A : Around) (outer : List Env) (s : Shared) (H : Hp) (E : XK) (hr : Room k (A.deeper (PyProof.Rows.envOfC "_law_text" (defScope (top 26)) s.heap.objs.size f cdv))) : MSs (cxOf CX0 P w K mg base ["_law_hand_here", "_law_tongue_here", "_law_many"] "_law_text" (defScope (top 26)) f cdv A outer s H E).nox X0 (defBody (top 26)) (b_law_text F_7) :=
 have SC := sc_16
 (mss_cons (ms_set (i := 2) SC.nd rfl (Or.inl rfl) (me_callL false D_7 (hr.mono h_7) rfl (ma_cons (me_v 0) (ma_cons me_int ma_nil))))
 (mss_cons (ms_if (mt_cmpO (op_eqD hr.u) snd_eqD (me_callL false D_7 (hr.mono h_7) rfl (ma_cons (me_v 0) (ma_cons me_int ma_nil))) me_int (nomark _))
  (mss_one (ms_set (i := 2) SC.nd rfl (Or.inl rfl) (me_callL false D_7 (hr.mono h_7) rfl (ma_cons (me_v 0) (ma_cons me_int ma_nil)))))
  mss_nil)
 (mss_one (ms_ret (me_ms PySem.F.slot_str_join PySem.F.type_str_join mt_join snd_join me_str (ma_cons (me_z (me_comp rfl (CSc.of (ts := ["_law_k"]) (fr := ["_law_hand_here", "_law_tongue_here"]) (ix := [0, 1]) rfl rfl rfl rfl (by intro p hp; simp only [List.mem_cons, List.not_mem_nil, or_false] at hp; rcases hp with rfl | rfl <;> rfl) rfl rfl rfl rfl) (mi_rng1 rfl M.range (ma_cons (me_v 2) ma_nil)) (fun _ _ _ _ => (pg_name (i := 0) (show (["_law_k", "_law_hand_here", "_law_tongue_here"] : List Str).Nodup by decide +kernel) rfl (Or.inl rfl) (.inr rfl))) tg_one (fun _ _ _ _ => (me_item (me_v 2) (me_callL false D_7 (hr.mono h_7) rfl (ma_cons (me_v 1) (ma_cons (me_fn (L2.CallR.or call_len_seq call_len_str) snd_len rfl M.len bt_len (ma_cons (me_v 2) ma_nil)) ma_nil))) (fun _ _ => rfl))))) ma_nil))))))
theorem sc_17 : FnScope ["_law_tongue_here", "_law_text_here", "_law_which", "_law_where", "_law_some", "_law_rest", "_law_at"] ["_law_tongue_here", "_law_text_here", "_law_which", "_law_where"] (defScope (top 27)) := ⟨rfl, rfl, rfl, by decide +kernel, rfl, by decide +kernel, by decide +kernel⟩
theorem m_17 {k : Nat} (M : Nm mg) {a_8 : Addr} {d_8 : FuncData} {k_8 : Nat} {F_8 : SF} (D_8 : Dn P w K mg base k_8 "_law_signs" [] (spOf K 0 F_8) a_8 d_8) (h_8 : k_8 ≤ k) (cdv : Value) (A : Around) (outer : List Env) (s : Shared) (H : Hp) (E : XK) (hr : Room k (A.deeper (PyProof.Rows.envOfC "_law_bad" (defScope (top 27)) s.heap.objs.size f cdv))) : MSs (cxOf CX0 P w K mg base ["_law_tongue_here", "_law_text_here", "_law_which", "_law_where", "_law_some", "_law_rest", "_law_at"] "_law_bad" (defScope (top 27)) f cdv A outer s H E).nox X0 (defBody (top 27)) (b_law_bad F_8) := by
  have SC := sc_17
  unfold b_law_bad
  refine mss_cons (ms_set (i := 4) SC.nd rfl (Or.inl rfl) (me_z (me_lst ?_))) ?_
  rotate_left
  · exact
    (mss_cons (ms_if (mt_cmpO (op_lt.or op_lt_str) snd_lt (me_v 2) (me_fn (L2.CallR.or call_len_seq call_len_str) snd_len rfl M.len bt_len (ma_cons (me_v 4) ma_nil)) (nomark _))
     (mss_one (ms_ret (me_item (me_v 4) (me_v 2) (fun _ _ => rfl))))
     mss_nil)
    (mss_cons (ms_set (i := 5) SC.nd rfl (Or.inl rfl) (me_z (me_addR (me_z (me_compF rfl (CSc.of (ts := ["_law_sign"]) (fr := ["_law_tongue_here"]) (ix := [0]) rfl rfl rfl rfl (by intro p hp; cases List.mem_singleton.mp hp; rfl) rfl rfl rfl rfl) (mi_seq (me_callL0 false D_8 (hr.mono h_8) rfl)) (fun _ _ _ _ => (pg_name (i := 0) (show (["_law_sign", "_law_tongue_here"] : List Str).Nodup by decide +kernel) rfl (Or.inl rfl) (.inr rfl))) tg_one (fun _ _ _ _ => (me_v 0)) (fun _ _ _ _ => (mt_cmpO (op_notin_1.or op_notIn_seq) snd_in1 (me_v 0) (me_v 1) (by with_unfolding_all rfl))))) (me_z (me_lst (ma_cons me_str ma_nil))))))
    (mss_cons (ms_set (i := 6) SC.nd rfl (Or.inl rfl) (me_mod (me_v 3) (me_addR (me_fn (L2.CallR.or call_len_seq call_len_str) snd_len rfl M.len bt_len (ma_cons (me_v 1) ma_nil)) me_int)))
    (mss_one (ms_ret (me_addR (me_addR (me_slice2 (me_v 1) mo_none (mo_some (me_v 6))) (me_item (me_v 5) (me_mod (me_div (me_v 3) me_int) (me_fn (L2.CallR.or call_len_seq call_len_str) snd_len rfl M.len bt_len (ma_cons (me_v 5) ma_nil))) (fun _ _ => rfl))) (me_slice2 (me_v 1) (mo_some (me_v 6)) mo_none)))))))
  refine mq_non ?_
  refine mq_bl ?_
  refine mq_bl ?_
  refine mq_i 0 ?_
  refine mq_i 7 ?_
  refine mq_pow 10 40 ?_
  refine mq_l0 ?_
  refine mq_l1s ?_
  refine mq_t0 ?_
  refine mq_t1s ?_
  refine mq_d0 ?_
  refine mq_lst (mq_n (me_v 1) ma_nil) ?_
  refine mq_tup (mq_n (me_v 1) ma_nil) ?_
  refine mq_call (me_z (me_fnTy (L2.CallR.or call_list_of (call_list_s rfl)) snd_list rfl M.list bt_list (mq_n (me_v 1) ma_nil))) ?_
  refine mq_call (me_fnTy (L2.CallR.or call_tuple_of (call_tuple_s rfl)) snd_tuple rfl M.tuple bt_tuple (mq_n (me_v 1) ma_nil)) ?_
  exact ma_nil
theorem sc_18 : FnScope ["_law_table_here", "_law_text_here", "_law_room", "_law_kind", "_law_found"] ["_law_table_here", "_law_text_here"] (defScope (top 28)) := ⟨rfl, rfl, rfl, by decide +kernel, rfl, by decide +kernel, by decide +kernel⟩
theorem m_18 {k : Nat} {a_15 : Addr} {d_15 : FuncData} {k_15 : Nat} {F_15 : SF} (D_15 : Dn P w K mg base k_15 "_law_led" ["_law_table_here", "_law_room", "_law_word"] (spOf K 3 F_15) a_15 d_15) (h_15 : k_15 ≤ k) {a_14 : Addr} {d_14 : FuncData} {k_14 : Nat} {F_14 : SF} (D_14 : Dn P w K mg base k_14 "_law_number" ["_law_thing", "_law_low", "_law_high"] (spOf K 3 F_14) a_14 d_14) (h_14 : k_14 ≤ k) {a_3 : Addr} {d_3 : FuncData} {k_3 : Nat} {F_3 : SF} (D_3 : DnX P w K mg base k_3 "kind_of" ["table", "word"] (spX K mg 2 F_3) a_3 d_3) (h_3 : k_3 ≤ k) {a_2 : Addr} {d_2 : FuncData} {k_2 : Nat} {F_2 : SF} (D_2 : DnX P w K mg base k_2 "room_of" ["table", "word"] (spX K mg 2 F_2) a_2 d_2) (h_2 : k_2 ≤ k) (cdv : Value) (A : Around) (outer : List Env) (s : Shared) (H : Hp) (E : XK) (hr : Room k (A.deeper (PyProof.Rows.envOfC "_law_right" (defScope (top 28)) s.heap.objs.size f cdv))) : MSs (cxOf CX0 P w K mg base ["_law_table_here", "_law_text_here", "_law_room", "_law_kind", "_law_found"] "_law_right" (defScope (top 28)) f cdv A outer s H E).nox X0 (defBody (top 28)) (b_law_right F_15 F_14 F_3 F_2) :=
 have SC := sc_18
 (mss_cons (ms_set (i := 2) SC.nd rfl (Or.inl rfl) (me_callL false D_15 (hr.mono h_15) rfl (ma_cons (me_v 0) (ma_cons me_int (ma_cons (me_v 1) ma_nil)))))
 (mss_cons (ms_set (i := 3) SC.nd rfl (Or.inl rfl) (me_item (me_item (me_v 0) me_int (fun _ _ => rfl)) (me_v 2) (fun _ _ => rfl)))
 (mss_cons (ms_set (i := 4) SC.nd rfl (Or.inl rfl) (me_callX0 D_2 (hr.mono h_2) rfl (ma_cons (me_v 0) (ma_cons (me_v 1) ma_nil))))
 (mss_cons (ms_if (mt_not (mt_val (me_callL false D_14 (hr.mono h_14) rfl (ma_cons (me_v 4) (ma_cons (me_v 2) (ma_cons (me_v 2) ma_nil))))))
  mss_no
  mss_nil)
 (mss_one (ms_ret (me_callL false D_14 (hr.mono h_14) rfl (ma_cons (me_callX0 D_3 (hr.mono h_3) rfl (ma_cons (me_v 0) (ma_cons (me_v 1) ma_nil))) (ma_cons (me_v 3) (ma_cons (me_v 3) ma_nil))))))))))
theorem sc_19 : FnScope ["_law_table_here", "_law_bad_here", "_law_whose", "_law_told", "e"] ["_law_table_here", "_law_bad_here", "_law_whose"] (defScope (top 29)) := ⟨rfl, rfl, rfl, by decide +kernel, rfl, by decide +kernel, by decide +kernel⟩
theorem m_19 {k : Nat} (M : Nm mg) {y_NoText y_ReachError y_Closed y_NoBook y_NoTable y_NoWord : Addr} (Z : Xn K mg y_NoText y_ReachError y_Closed y_NoBook y_NoTable y_NoWord) {a_3 : Addr} {d_3 : FuncData} {k_3 : Nat} {F_3 : SF} (D_3 : DnX P w K mg base k_3 "kind_of" ["table", "word"] (spX K mg 2 F_3) a_3 d_3) (h_3 : k_3 ≤ k) {a_2 : Addr} {d_2 : FuncData} {k_2 : Nat} {F_2 : SF} (D_2 : DnX P w K mg base k_2 "room_of" ["table", "word"] (spX K mg 2 F_2) a_2 d_2) (h_2 : k_2 ≤ k) (cdv : Value) (A : Around) (outer : List Env) (s : Shared) (H : Hp) (E : XK) (hr : Room k (A.deeper (PyProof.Rows.envOfC "_law_refused" (defScope (top 29)) s.heap.objs.size f cdv))) : MSs (cxOf CX0 P w K mg base ["_law_table_here", "_law_bad_here", "_law_whose", "_law_told", "e"] "_law_refused" (defScope (top 29)) f cdv A outer s H E).nox X0 (defBody (top 29)) (b_law_refused F_3 F_2) :=
 have SC := sc_19
 (mss_cons (ms_set (i := 3) SC.nd rfl (Or.inl rfl) me_bl)
 (mss_cons (ms_try (i := 4) ⟨rfl, Z.g_ReachError, SC.nd, rfl, rfl, ⟨rfl, rfl⟩, by decide⟩ (hcs_ReachError Z)
  (mx_if (mt_cmpO (op_eqD hr.u) snd_eqD (me_v 2) me_int (nomark _))
  (mx_expr (mx_call D_2 (hr.mono h_2) rfl (ma_cons (me_v 0) (ma_cons (me_v 1) ma_nil))))
  (mx_expr (mx_call D_3 (hr.mono h_3) rfl (ma_cons (me_v 0) (ma_cons (me_v 1) ma_nil)))))
  (fun a => (mss_cons (ms_set (i := 3) SC.nd rfl (Or.inl rfl) (me_and (me_isE (i := 4) rfl M.isinstance bt_isinstance rfl (Or.inl rfl) (pe_glob (v := .ref y_NoText) rfl Z.g_NoText rfl) (.inl ⟨_, rfl, rfl⟩) (hf_NoText Z)) (me_one (me_isE (i := 4) rfl M.isinstance bt_isinstance rfl (Or.inl rfl) (pe_bltn (v := .ty "ValueError") rfl M.ValueError PyProof.Rows.Boot.«ValueError» rfl) (.inr ⟨_, rfl, rfl⟩) (hf_ValueError Z)))))
 (mss_one (ms_if (mt_val (me_isET (i := 4) (cs := [y_Closed, y_NoBook, y_NoTable, y_NoWord]) rfl M.isinstance bt_isinstance rfl (Or.inl rfl) (pa_cons (pe_glob (v := .ref y_Closed) rfl Z.g_Closed rfl) (pa_cons (pe_glob (v := .ref y_NoBook) rfl Z.g_NoBook rfl) (pa_cons (pe_glob (v := .ref y_NoTable) rfl Z.g_NoTable rfl) (pa_cons (pe_glob (v := .ref y_NoWord) rfl Z.g_NoWord rfl) pa_nil)))) (fun _ _ _ q => q) (le_line (by simp)) (hf_Closed_NoBook_NoTable_NoWord Z)))
  mss_no
  mss_nil)))))
 (mss_one (ms_ret (me_v 3)))))
theorem sc_20 : FnScope ["_law_script", "_law_hand_here", "_law_which", "_law_where", "_law_one", "_law_text_here", "_law_two", "_law_other", "_law_bad_here", "_law_whose"] ["_law_script"] (defScope (top 30)) := ⟨rfl, rfl, rfl, by decide +kernel, rfl, by decide +kernel, by decide +kernel⟩
theorem m_20 {k : Nat} {a_17 : Addr} {d_17 : FuncData} {k_17 : Nat} {F_17 : SF} (D_17 : Dn P w K mg base k_17 "_law_bad" ["_law_tongue_here", "_law_text_here", "_law_which", "_law_where"] (spOf K 4 F_17) a_17 d_17) (h_17 : k_17 ≤ k) {a_6 : Addr} {d_6 : FuncData} {k_6 : Nat} {F_6 : SF} (D_6 : Dn P w K mg base k_6 "_law_hand" ["_law_script"] (spOf K 1 F_6) a_6 d_6) (h_6 : k_6 ≤ k) {a_19 : Addr} {d_19 : FuncData} {k_19 : Nat} {F_19 : SF} (D_19 : Dn P w K mg base k_19 "_law_refused" ["_law_table_here", "_law_bad_here", "_law_whose"] (spOf K 3 F_19) a_19 d_19) (h_19 : k_19 ≤ k) {a_18 : Addr} {d_18 : FuncData} {k_18 : Nat} {F_18 : SF} (D_18 : Dn P w K mg base k_18 "_law_right" ["_law_table_here", "_law_text_here"] (spOf K 2 F_18) a_18 d_18) (h_18 : k_18 ≤ k) {a_13 : Addr} {d_13 : FuncData} {k_13 : Nat} {F_13 : SF} (D_13 : Dn P w K mg base k_13 "_law_table" ["_law_hand_here"] (spOf K 1 F_13) a_13 d_13) (h_13 : k_13 ≤ k) {a_7 : Addr} {d_7 : FuncData} {k_7 : Nat} {F_7 : SF} (D_7 : Dn P w K mg base k_7 "_law_take" ["_law_hand_here", "_law_many"] (spOf K 2 F_7) a_7 d_7) (h_7 : k_7 ≤ k) {a_16 : Addr} {d_16 : FuncData} {k_16 : Nat} {F_16 : SF} (D_16 : Dn P w K mg base k_16 "_law_text" ["_law_hand_here", "_law_tongue_here"] (spOf K 2 F_16) a_16 d_16) (h_16 : k_16 ≤ k) (cdv : Value) (A : Around) (outer : List Env) (s : Shared) (H : Hp) (E : XK) (hr : Room k (A.deeper (PyProof.Rows.envOfC "law" (defScope (top 30)) s.heap.objs.size f cdv))) : MSs (cxOf CX0 P w K mg base ["_law_script", "_law_hand_here", "_law_which", "_law_where", "_law_one", "_law_text_here", "_law_two", "_law_other", "_law_bad_here", "_law_whose"] "law" (defScope (top 30)) f cdv A outer s H E).nox X0 (defBody (top 30)) (b_law F_17 F_6 F_19 F_18 F_13 F_7 F_16) :=
 have SC := sc_20
 (mss_cons (ms_set (i := 1) SC.nd rfl (Or.inl rfl) (me_callL true D_6 (hr.mono h_6) rfl (ma_cons (me_v 0) ma_nil)))
 (mss_cons (ms_set (i := 2) SC.nd rfl (Or.inl rfl) (me_callL false D_7 (hr.mono h_7) rfl (ma_cons (me_v 1) (ma_cons me_int ma_nil))))
 (mss_cons (ms_set (i := 3) SC.nd rfl (Or.inl rfl) (me_callL false D_7 (hr.mono h_7) rfl (ma_cons (me_v 1) (ma_cons me_int ma_nil))))
 (mss_cons (ms_set (i := 4) SC.nd rfl (Or.inl rfl) (me_callL false D_13 (hr.mono h_13) rfl (ma_cons (me_v 1) ma_nil)))
 (mss_cons (ms_set (i := 5) SC.nd rfl (Or.inl rfl) (me_callL false D_16 (hr.mono h_16) rfl (ma_cons (me_v 1) (ma_cons (me_item (me_v 4) me_int (fun _ _ => rfl)) ma_nil))))
 (mss_cons (ms_set (i := 6) SC.nd rfl (Or.inl rfl) (me_callL false D_13 (hr.mono h_13) rfl (ma_cons (me_v 1) ma_nil)))
 (mss_cons (ms_set (i := 7) SC.nd rfl (Or.inl rfl) (me_callL false D_16 (hr.mono h_16) rfl (ma_cons (me_v 1) (ma_cons (me_item (me_v 6) me_int (fun _ _ => rfl)) ma_nil))))
 (mss_cons (ms_set (i := 8) SC.nd rfl (Or.inl rfl) (me_callL false D_17 (hr.mono h_17) rfl (ma_cons (me_item (me_v 4) me_int (fun _ _ => rfl)) (ma_cons (me_v 5) (ma_cons (me_v 2) (ma_cons (me_v 3) ma_nil))))))
 (mss_cons (ms_if (PW.pt (mw_or (mt_not (mt_val (me_callL false D_18 (hr.mono h_18) rfl (ma_cons (me_v 4) (ma_cons (me_v 5) ma_nil))))) (mw_or (mt_not (mt_val (me_callL false D_18 (hr.mono h_18) rfl (ma_cons (me_v 6) (ma_cons (me_v 7) ma_nil))))) (mw_or1 (mt_not (mt_val (me_callL false D_18 (hr.mono h_18) rfl (ma_cons (me_v 4) (ma_cons (me_v 5) ma_nil)))))))))
  mss_no
  mss_nil)
 (mss_cons (ms_for PassesOwn.never rfl (mi_seq (me_z (me_lst (ma_cons me_int (ma_cons me_int (ma_cons (me_mod (me_v 3) me_int) ma_nil)))))) (mg_name (i := 9) SC.nd rfl (Or.inl rfl)) (mss_one (ms_if (mt_not (mt_val (me_callL false D_19 (hr.mono h_19) rfl (ma_cons (me_v 4) (ma_cons (me_v 8) (ma_cons (me_v 9) ma_nil))))))
  mss_no
  mss_nil)))
 (mss_one (ms_ret (me_callL false D_18 (hr.mono h_18) rfl (ma_cons (me_v 4) (ma_cons (me_v 5) ma_nil)))))))))))))))
end
end K21
set_option Elab.async false
set_option linter.all false
set_option maxRecDepth 100000
set_option maxHeartbeats 4000000
namespace K23
open PySem PySem.Spec L2 MI
noncomputable def b_is_text_C0 : SE :=
 (s2 (gIn false) (sV 0) (sV 1))
noncomputable def b_is_text : SS :=
 (sRet (sAndV (sA gIsiR (sCons (sV 1) (sCons (sC (.ty "str")) sNil))) (sA gAll (sCons (sZ (sComp (sIt (sV 1)) t1 b_is_text_C0 [0])) sNil))))
noncomputable def b_room_from (F_rooms_along : SF) : SS :=
 (sRet (s2 gIx (sA (sLoc false 3 F_rooms_along) (sCons (sV 0) (sCons (sV 1) (sCons (sV 2) sNil)))) (s1 gNeg (sC (.int 1)))))
noncomputable def b_rooms_along_L0 : SS :=
 (sDrop (sML gApp (sV 6) (sCons (s2 gIx (s2 gIx (sV 4) (s2 gIx (sV 6) (s1 gNeg (sC (.int 1))))) (sMS gIndex (sV 3) (sCons (sV 7) sNil))) sNil)))
noncomputable def b_rooms_along : SS :=
 (sSeq (sAsg (sV 0) (kTup 3 (kCons (kN 3) (kCons (kN 4) (kCons (kN 5) kNil)))))
 (sSeq (sSet 6 (sA gLst (sCons (sV 1) sNil)))
 (sSeq (sFor (sIt (sV 2)) (kN 7) b_rooms_along_L0)
 (sRet (sV 6)))))
noncomputable def b_law_led_L0 : SS :=
 (sSet 1 (s2 gIx (s2 gIx (s2 gIx (sV 0) (sC (.int 1))) (sV 1)) (sMS gFind (s2 gIx (sV 0) (sC (.int 0))) (sCons (sV 3) sNil))))
noncomputable def b_law_led : SS :=
 (sSeq (sFor (sIt (sV 2)) (kN 3) b_law_led_L0)
 (sRet (sV 1)))
end K23
set_option Elab.async false
set_option linter.all false
set_option maxRecDepth 100000
set_option maxHeartbeats 4000000
namespace K22
open PySem PySem.Spec L2 MI
end K22
namespace AT
open L2
theorem atI_0 {α : Type} (x0 : α) (xs : List α) : atI (x0 :: xs) 0 = some x0 := atI_nat (j := 0) rfl
theorem atI_1 {α : Type} (x0 x1 : α) (xs : List α) : atI (x0 :: x1 :: xs) 1 = some x1 := atI_nat (j := 1) rfl
theorem atI_2 {α : Type} (x0 x1 x2 : α) (xs : List α) : atI (x0 :: x1 :: x2 :: xs) 2 = some x2 := atI_nat (j := 2) rfl
theorem atI_3 {α : Type} (x0 x1 x2 x3 : α) (xs : List α) : atI (x0 :: x1 :: x2 :: x3 :: xs) 3 = some x3 := atI_nat (j := 3) rfl
theorem atI_4 {α : Type} (x0 x1 x2 x3 x4 : α) (xs : List α) : atI (x0 :: x1 :: x2 :: x3 :: x4 :: xs) 4 = some x4 := atI_nat (j := 4) rfl
theorem atI_5 {α : Type} (x0 x1 x2 x3 x4 x5 : α) (xs : List α) : atI (x0 :: x1 :: x2 :: x3 :: x4 :: x5 :: xs) 5 = some x5 := atI_nat (j := 5) rfl
theorem atI_6 {α : Type} (x0 x1 x2 x3 x4 x5 x6 : α) (xs : List α) : atI (x0 :: x1 :: x2 :: x3 :: x4 :: x5 :: x6 :: xs) 6 = some x6 := atI_nat (j := 6) rfl
theorem atI_7 {α : Type} (x0 x1 x2 x3 x4 x5 x6 x7 : α) (xs : List α) : atI (x0 :: x1 :: x2 :: x3 :: x4 :: x5 :: x6 :: x7 :: xs) 7 = some x7 := atI_nat (j := 7) rfl
theorem x10 : ixN 1 0 = some 0 := rfl
theorem x20 : ixN 2 0 = some 0 := rfl
theorem x21 : ixN 2 1 = some 1 := rfl
theorem x30 : ixN 3 0 = some 0 := rfl
theorem x31 : ixN 3 1 = some 1 := rfl
theorem x32 : ixN 3 2 = some 2 := rfl
theorem x40 : ixN 4 0 = some 0 := rfl
theorem x41 : ixN 4 1 = some 1 := rfl
theorem x42 : ixN 4 2 = some 2 := rfl
theorem x43 : ixN 4 3 = some 3 := rfl
theorem x50 : ixN 5 0 = some 0 := rfl
theorem x51 : ixN 5 1 = some 1 := rfl
theorem x52 : ixN 5 2 = some 2 := rfl
theorem x53 : ixN 5 3 = some 3 := rfl
theorem x54 : ixN 5 4 = some 4 := rfl
theorem x60 : ixN 6 0 = some 0 := rfl
theorem x61 : ixN 6 1 = some 1 := rfl
theorem x62 : ixN 6 2 = some 2 := rfl
theorem x63 : ixN 6 3 = some 3 := rfl
theorem x64 : ixN 6 4 = some 4 := rfl
theorem x65 : ixN 6 5 = some 5 := rfl
theorem x70 : ixN 7 0 = some 0 := rfl
theorem x71 : ixN 7 1 = some 1 := rfl
theorem x72 : ixN 7 2 = some 2 := rfl
theorem x73 : ixN 7 3 = some 3 := rfl
theorem x74 : ixN 7 4 = some 4 := rfl
theorem x75 : ixN 7 5 = some 5 := rfl
theorem x76 : ixN 7 6 = some 6 := rfl
def absI (x : Int) : Int := if x < 0 then -x else x
theorem abs_i (x : Int) (h : MI.Hd) : MI.gAbs [.int x] h = .ok (.int (absI x)) h := rfl
theorem p18 (h : MI.Hd) : MI.gPow (.int 10) (.int 18) h = .ok (.int 1000000000000000000) h := by rw [MI.gPow, if_pos (by decide)]; rfl
theorem pow_i {i j : Int} {h : MI.Hd} (c : 0 ≤ j ∧ j ≤ 1000000 ∧ i.natAbs < 2 ^ 64) : MI.gPow (.int i) (.int j) h = .ok (.int (i ^ j.toNat)) h := by rw [MI.gPow, if_pos c]
end AT
set_option Elab.async false
set_option linter.all false
set_option maxRecDepth 100000
set_option maxHeartbeats 4000000
namespace MI
open PySem PySem.Spec L2
abbrev S (l : List Nat) : Str := ⟨l.toArray⟩
theorem S_cps (l : List Nat) : (S l).cps.toList = l := by simp
theorem S_len (l : List Nat) : (S l).length = l.length := by simp [Str.length]
theorem S_eta (x : Str) : S x.cps.toList = x := by cases x; simp
theorem S_app (a b : List Nat) : S a ++ S b = S (a ++ b) := by rw [← S_eta (S a ++ S b), app_l]
section
variable {h : Hd} {a b l : List Nat} {i : Nat} {c : Nat}
theorem ix_S (hl : l.length ≤ LINE) (e : l[i]? = some c) : gIx (.str (S l)) (.int (i : Nat)) h = .ok (.str (S [c])) h := by
  unfold gIx
  simp only [S_len, if_pos hl, S_cps, atI_nat e]
theorem add_S (hl : a.length + b.length ≤ LINE) : gAddR (.str (S a)) (.str (S b)) h = .ok (.str (S (a ++ b))) h := by
  unfold gAddR
  simp only [S_len, if_pos hl, S_app]
theorem len_S (hl : l.length ≤ LINE) : gLen [.str (S l)] h = .ok (.int l.length) h := by
  unfold gLen
  simp only [S_len, if_pos hl]
theorem to_S (k : Nat) (hl : l.length ≤ LINE) : gSl2 (.str (S l)) none (some (k : Int)) h = .ok (.str (S (l.take k))) h := by
  show gSl (.str (S l)) none (some (k : Int)) h = _
  unfold gSl
  simp only [S_len, if_pos hl, S_cps, cutL_to]
theorem from_S (k : Nat) (hl : l.length ≤ LINE) : gSl2 (.str (S l)) (some (k : Int)) none h = .ok (.str (S (l.drop k))) h := by
  show gSl (.str (S l)) (some (k : Int)) none h = _
  unfold gSl
  simp only [S_len, if_pos hl, S_cps, cutL_from]
end
section
variable {h : Hd} {i j : Int} {xs ys : List D}
theorem ix_tup : gIx (.tup xs) (.int i) h = (match atI xs i with | some d => .ok d h | none => .no) := rfl
theorem ix_rol : gIx (.rol xs) (.int i) h = (match atI xs i with | some d => .ok d h | none => .no) := rfl
theorem ix_ref {k : Nat} : gIx (.ref k) (.int i) h = (match seqD (.ref k) h with | some xs => (match atI xs i with | some d => .ok d h | none => .no) | none => .no) := rfl
theorem len_tup : gLen [.tup xs] h = .ok (.int xs.length) h := rfl
theorem len_rol : gLen [.rol xs] h = .ok (.int xs.length) h := rfl
theorem len_ref {k : Nat} : gLen [.ref k] h = (match seqD (.ref k) h with | some xs => .ok (.int xs.length) h | none => .no) := rfl
theorem add_ii : gAddR (.int i) (.int j) h = .ok (.int (i + j)) h := rfl
theorem iadd_ii : gIAdd (.int i) (.int j) h = .ok (.int (i + j)) h := rfl
open Classical in
theorem mul_ii : gMulR (.int i) (.int j) h = if CMul i j then .ok (.int (i * j)) h else .no := by unfold gMulR; rfl
theorem tru_bl (b : Bool) : tru (.bl b) h = .ok b h := rfl
theorem tru_int : tru (.int i) h = .ok (i != 0) h := rfl
theorem tru_rol : tru (.rol xs) h = .ok (!xs.isEmpty) h := rfl
theorem tru_tup : tru (.tup xs) h = .ok (!xs.isEmpty) h := rfl
theorem tru_non : tru .non h = .ok false h := rfl
theorem eq_ii : hEq (.int i) (.int j) h = .ok (.bl (i == j)) h := rfl
theorem ne_ii : hNe (.int i) (.int j) h = .ok (.bl (!(i == j))) h := rfl
theorem eq_bb (a b : Bool) : hEq (.bl a) (.bl b) h = .ok (.bl (a == b)) h := rfl
theorem ne_bb (a b : Bool) : hNe (.bl a) (.bl b) h = .ok (.bl (!(a == b))) h := rfl
theorem is_non (x : D) : gIs x .non h = .ok (.bl (isNon x)) h := by cases x <;> rfl
theorem isNot_non (x : D) : gIsNot x .non h = .ok (.bl (!isNon x)) h := by cases x <;> rfl
theorem is_bb (a b : Bool) : gIs (.bl a) (.bl b) h = .ok (.bl (a == b)) h := rfl
theorem isNot_bb (a b : Bool) : gIsNot (.bl a) (.bl b) h = .ok (.bl (a != b)) h := rfl
theorem nonI : isNon (.int i) = false := rfl
theorem nonS (x : Str) : isNon (.str x) = false := rfl
theorem nonN : isNon .non = true := rfl
theorem nonT : isNon (.tup xs) = false := rfl
end
end MI
set_option Elab.async false
set_option linter.all false
set_option maxRecDepth 100000
set_option maxHeartbeats 4000000
namespace HND
open PySem PySem.Spec L2 MI AT
local macro_rules | `(tactic| walk_at "ev") => `(tactic| simp only [sSeq_thn, thn_nx, thn_rt, toR_rt, toR_nx, sSet, sAug, sAugS, sIf, sRet, sDrop, sPut, put, sDSet, sAsg, kTup, kCons, kNil, kN, sV, sC, s2, s1, sA, sCons, sNil, sNx, sT, asB, sTru, tru_bl, tru_int, tru_rol, tru_tup, tru_non, sAnd, sOr, sNot, sAndV, sOrV, sNotV, sCh, sIfE, bind_ok, fl_ok, MI.ix_tup, MI.ix_rol, MI.ix_ref, gIxL, seqD, gLt, gGt, gGe, gLe, eq_ii, ne_ii, eq_bb, ne_bb, is_non, isNot_non, is_bb, isNot_bb, nonI, nonS, nonN, nonT, add_ii, MI.gSub, gMod, gDiv, mul_ii, AT.abs_i, AT.p18, len_tup, len_rol, len_ref, gInt, iadd_ii, gNeg, gMin2, gMax2, MI.gTup, MI.gLst, sML, isL, gApp, oN, oS, sSl2, lstOf, sIt, itOf, sRg, List.length_map, List.length_cons, List.length_nil, List.length_append, List.getElem?_cons_zero, List.getElem?_cons_succ, List.set_cons_zero, List.set_cons_succ, List.nil_append, List.cons_append, AT.atI_0, AT.atI_1, AT.atI_2, AT.atI_3, AT.atI_4, AT.atI_5, AT.atI_6, AT.atI_7, AT.x10, AT.x20, AT.x21, AT.x30, AT.x31, AT.x32, AT.x40, AT.x41, AT.x42, AT.x43, AT.x50, AT.x51, AT.x52, AT.x53, AT.x54, AT.x60, AT.x61, AT.x62, AT.x63, AT.x64, AT.x65, AT.x70, AT.x71, AT.x72, AT.x73, AT.x74, AT.x75, AT.x76, decide_true, decide_false, reduceIte, Bool.true_and, Bool.and_self, Bool.not_true, Bool.not_false, and_self, true_and, and_true, beq_self_eq_true, Nat.reduceAdd, Nat.reduceLeDiff, Nat.reduceLT, Nat.reducePow, Int.reduceLT, Int.reduceLE, Int.reduceNeg, Int.reduceEq, Int.reduceBEq, Bool.false_eq_true, Bool.true_eq_false, ite_true, ite_false, if_true, if_false, *])
structure Hand (o : O) (N : Nat) : Prop where
  ex : ∃ (cells : List Int) (a l s c : Int), o = .lst [.rol (cells.map D.int), .int a, .int l, .int s, .int c] ∧ 0 ≤ a ∧ 0 ≤ l ∧ 0 ≤ s ∧ s < 2147483647 ∧ 0 ≤ c ∧ c ≤ N ∧ cells.length ≤ 63
theorem Hand.clo {o : O} {N : Nat} (P : Hand o N) : cloO 0 o := by
  obtain ⟨cells, a, l, s, c, rfl, _⟩ := P.ex
  exact clos_cons (clo_rol (clos_map fun x _ => clo_int x)) (clos_cons (clo_int _) (clos_cons (clo_int _) (clos_cons (clo_int _) (clos_cons (clo_int _) clos_nil))))
theorem Hand.up {o : O} {N M : Nat} (P : Hand o N) (h : N ≤ M) : Hand o M := by
  obtain ⟨cells, a, l, s, c, e, h1, h2, h3, h4, h5, h6, h7⟩ := P.ex
  exact ⟨cells, a, l, s, c, e, h1, h2, h3, h4, h5, by omega, h7⟩
noncomputable def F_law_take : SF := bodyR b_law_take 4
theorem take_body {o : O} {N : Nat} {m : Int} (P : Hand o N) (hN : N ≤ 1000000000) (m0 : 0 < m) (m1 : m < 1073741824) : ∃ r o', F_law_take [.ref 0, .int m] [o] = .ok (.int r) [o'] ∧ 0 ≤ r ∧ r < m ∧ Hand o' (N + 1) := by
  obtain ⟨cells, a, l, s, c, rfl, a0, l0, s0, s1, c0, c1, c63⟩ := P.ex
  unfold F_law_take
  rw [body_toR]
  unfold b_law_take startD
  simp only [List.map_cons, List.map_nil, List.length_cons, List.length_nil, Nat.reduceSub, Nat.reduceAdd, List.replicate, List.cons_append, List.nil_append]
  by_cases h2 : m < 2
  · refine ⟨0, _, ?_, by omega, by omega, ⟨cells, a, l, s, c, rfl, a0, l0, s0, s1, c0, by omega, c63⟩⟩
    walk_at "ev"
  · have k2 : decide (m < 2) = false := decide_eq_false h2
    have k3 : (0 < m ∧ m < 1073741824) = True := by simp [m0, m1]
    have k3' : (0 < m) = True := by simp [m0]
    have draw : ∀ s' : Int, 0 ≤ s' → s' < 2147483647 → ∃ r, 0 ≤ r ∧ r < m ∧ (s' + 7368787 * (c + 1)) ^ (5 : Int).toNat % 2147483647 / 1009 % m = r ∧ CMul 7368787 (c + 1) ∧ ∀ h, gPow (.int (s' + 7368787 * (c + 1))) (.int 5) h = .ok (.int ((s' + 7368787 * (c + 1)) ^ (5 : Int).toNat)) h := fun s' h0 h1 =>
      ⟨_, Int.emod_nonneg _ (by omega), Int.emod_lt_of_pos _ m0, rfl, .inl ⟨by decide, by decide⟩, fun h => pow_i ⟨by decide, by decide, by omega⟩⟩
    by_cases hA : l = 0 ∧ a < (cells.length : Int)
    · obtain ⟨rfl, ha⟩ := hA
      obtain ⟨j, rfl⟩ := Int.eq_ofNat_of_zero_le a0
      have hj : j < cells.length := by omega
      have hat : atI (cells.map D.int) (j : Int) = some (.int cells[j]) := atI_nat (by simp [hj])
      have ka : decide ((j : Int) < (cells.length : Int)) = true := decide_eq_true ha
      have cm : CMul s 48271 := .inr ⟨by decide, by decide⟩
      have s2 : 0 ≤ (s * 48271 + cells[j]) % 2147483647 := Int.emod_nonneg _ (by decide)
      have s3 : (s * 48271 + cells[j]) % 2147483647 < 2147483647 := Int.emod_lt_of_pos _ (by decide)
      generalize hs' : (s * 48271 + cells[j]) % 2147483647 = s' at s2 s3
      generalize hx : cells[j] = x at *
      by_cases hB : (1000000000000000000 : Int) ≤ absI x
      · have kb : decide ((1000000000000000000 : Int) ≤ absI x) = true := decide_eq_true hB
        have pos : 0 < absI x := by omega
        have kc : decide (0 < absI x) = true := decide_eq_true pos
        refine ⟨absI x % m, _, ?_, Int.emod_nonneg _ (by omega), Int.emod_lt_of_pos _ m0, ⟨cells, (j : Int) + 1, absI x / m, s', c, rfl, by omega, Int.ediv_nonneg (by omega) (by omega), s2, s3, c0, by omega, c63⟩⟩
        walk_at "ev"
      · have kb : decide ((1000000000000000000 : Int) ≤ absI x) = false := decide_eq_false hB
        obtain ⟨r, r0, r1, er, d1, d2⟩ := draw s' s2 s3
        refine ⟨r, _, ?_, r0, r1, ⟨cells, (j : Int) + 1, 0, s', c + 1, rfl, by omega, by omega, s2, s3, by omega, by omega, c63⟩⟩
        walk_at "ev"
    · by_cases hC : 0 < l
      · have kc : decide (0 < l) = true := decide_eq_true hC
        have kd : (l == 0) = false := by simp; omega
        refine ⟨l % m, _, ?_, Int.emod_nonneg _ (by omega), Int.emod_lt_of_pos _ m0, ⟨cells, a, l / m, s, c, rfl, a0, Int.ediv_nonneg (by omega) (by omega), s0, s1, c0, by omega, c63⟩⟩
        walk_at "ev"
      · have : l = 0 := by omega
        subst this
        have ka : decide (a < (cells.length : Int)) = false := decide_eq_false fun z => hA ⟨rfl, z⟩
        obtain ⟨r, r0, r1, er, d1, d2⟩ := draw s s0 s1
        refine ⟨r, _, ?_, r0, r1, ⟨cells, a, 0, s, c + 1, rfl, a0, by omega, s0, s1, by omega, by omega, c63⟩⟩
        walk_at "ev"
theorem take_ok {o : O} {N : Nat} {m : Int} (P : Hand o N) (hN : N ≤ 1000000000) (m0 : 0 < m) (m1 : m < 1073741824) : ∃ r o', Dr F_law_take 2 [.int m] o (.int r) o' ∧ 0 ≤ r ∧ r < m ∧ Hand o' (N + 1) := by
  obtain ⟨r, o', e, r0, r1, P'⟩ := take_body P hN m0 m1
  refine ⟨r, o', Dr.of rfl (by simp [clo_int]) P.clo e (frzR_clo (clo_int _) ?_) (clo_int _) P'.clo, r0, r1, P'⟩
  intro u hu
  simp at hu
  subst hu
  exact cloO_up (by omega) P'.clo
end HND
set_option Elab.async false
set_option linter.all false
set_option maxRecDepth 100000
set_option maxHeartbeats 4000000
namespace HND
open PySem PySem.Spec L2 MI AT
local macro_rules | `(tactic| walk_at "ev") => `(tactic| simp only [sSeq_thn, thn_nx, thn_rt, toR_rt, toR_nx, sSet, sAug, sAugS, sIf, sRet, sDrop, sPut, put, sDSet, sAsg, kTup, kCons, kNil, kN, sV, sC, s2, s1, sA, sCons, sNil, sNx, sT, asB, sTru, tru_bl, tru_int, tru_rol, tru_tup, tru_non, sAnd, sOr, sNot, sAndV, sOrV, sNotV, sCh, sIfE, bind_ok, fl_ok, MI.ix_tup, MI.ix_rol, MI.ix_ref, gIxL, seqD, gLt, gGt, gGe, gLe, eq_ii, ne_ii, eq_bb, ne_bb, is_non, isNot_non, is_bb, isNot_bb, nonI, nonS, nonN, nonT, add_ii, MI.gSub, gMod, gDiv, mul_ii, AT.abs_i, AT.p18, len_tup, len_rol, len_ref, gInt, iadd_ii, gNeg, gMin2, gMax2, MI.gTup, MI.gLst, sML, isL, gApp, oN, oS, sSl2, lstOf, sIt, itOf, sRg, sFor, gRng1, gRng2, gRng3, sEnum, gEnum, sZip, gZip, srcOf,  List.length_map, List.length_cons, List.length_nil, List.length_append, List.getElem?_cons_zero, List.getElem?_cons_succ, List.set_cons_zero, List.set_cons_succ, List.nil_append, List.cons_append, AT.atI_0, AT.atI_1, AT.atI_2, AT.atI_3, AT.atI_4, AT.atI_5, AT.atI_6, AT.atI_7, AT.x10, AT.x20, AT.x21, AT.x30, AT.x31, AT.x32, AT.x40, AT.x41, AT.x42, AT.x43, AT.x50, AT.x51, AT.x52, AT.x53, AT.x54, AT.x60, AT.x61, AT.x62, AT.x63, AT.x64, AT.x65, AT.x70, AT.x71, AT.x72, AT.x73, AT.x74, AT.x75, AT.x76, decide_true, decide_false, reduceIte, Bool.true_and, Bool.and_self, Bool.not_true, Bool.not_false, and_self, true_and, and_true, beq_self_eq_true, Nat.reduceAdd, Nat.reduceLeDiff, Nat.reduceLT, Nat.reducePow, Int.reduceLT, Int.reduceLE, Int.reduceNeg, Int.reduceEq, Int.reduceBEq, Bool.false_eq_true, Bool.true_eq_false, ite_true, ite_false, if_true, if_false, *])
noncomputable def F_law_hand : SF := bodyR b_law_hand 1
theorem hand_ok (ns : List Int) (h : Hd) : ∃ o, Hand o 0 ∧ sLoc true 1 F_law_hand [.scr (ns.map D.int)] h = .ok (.ref h.length) (h ++ [o]) := by
  have cl : clos 0 ((ns.take 63).map D.int) := clos_map fun x _ => clo_int x
  have z1 : sZ (sSl2 (sV 0) oN (oS (sC (.int 63)))) [some (.scr (ns.map D.int))] [] = .ok (.rol ((ns.take 63).map D.int)) [] := by
    refine z_lst (by
      show gSl (.scr (ns.map D.int)) none (some ((63 : Nat) : Int)) [] = _
      unfold gSl
      simp only [cutL_to, List.map_take]) cl (by simp)
  have z2 : sZ (sA gList (sCons (sZ (sSl2 (sV 0) oN (oS (sC (.int 63))))) sNil)) [some (.scr (ns.map D.int))] [] = .ok (.rol ((ns.take 63).map D.int)) [] := by
    refine z_lst (by
      simp only [sA, sCons, sNil, z1, bind_ok]
      rfl) cl (by simp)
  have e : F_law_hand [.scr (ns.map D.int)] [] = .ok (.ref 0) [.lst [.rol ((ns.take 63).map D.int), .int 0, .int 0, .int 7, .int 0]] := by
    unfold F_law_hand
    rw [body_toR]
    unfold b_law_hand startD
    simp only [List.map_cons, List.map_nil, List.length_cons, List.length_nil, Nat.reduceSub, Nat.reduceAdd, List.replicate, List.append_nil]
    simp only [sRet, sA, sCons, sNil, sC, bind_ok, fl_ok] at z2 ⊢
    simp only [z2, bind_ok]
    rfl
  have P : Hand (.lst [.rol ((ns.take 63).map D.int), .int 0, .int 0, .int 7, .int 0]) 0 := ⟨ns.take 63, 0, 0, 7, 0, rfl, by decide, by decide, by decide, by decide, by decide, by decide, by simp; omega⟩
  exact ⟨_, P, new_of rfl (by simpa [clo] using (clos_map fun x _ => clo_int x : clos 0 (ns.map D.int))) e rfl P.clo h⟩
def litA : Str := " !\"#$&'()*+,-./0123456789:;<=>?@ABCDEFGHIJKLMNOPQRSTUVWXYZ[\\]^_`"
def litB : Str := "abcdefghijklmnopqrstuvwxyz{|}~\n"
def sig : List Nat := litA.cps.toList ++ litB.cps.toList
theorem sig_len : sig.length = 95 := by decide +kernel
theorem sig_nd : sig.Nodup := by decide +kernel
noncomputable def F_law_signs : SF := bodyR b_law_signs 1
theorem lits {h : Hd} : gAddR (.str litA) (.str litB) h = .ok (.str (S sig)) h := by
  rw [← S_eta litA, ← S_eta litB, add_S (by decide +kernel)]
  rfl
theorem signs_ok : Pu F_law_signs 0 [] (.str (S sig)) := by
  refine Pu.of rfl (by simp) (r := .ok (.str (S sig)) []) ?_ (by rw [frzR_clo (clo_str _) (by simp)]; rfl) (clo_str _)
  unfold F_law_signs
  rw [body_toR]
  unfold b_law_signs
  have e := @lits []
  unfold litA litB at e
  show toR (sSeq (sSet 0 _) _ [none] []) = _
  simp only [sSeq_thn, sSet, sC, fl_ok, thn_nx, sRet, s2, sV, List.set_cons_zero, List.getElem?_cons_zero, bind_ok, e, toR_rt]
structure Tongue (l : List Nat) : Prop where
  lo : 1 ≤ l.length
  hi : l.length ≤ 6
  nd : l.Nodup
  sub : ∀ c ∈ l, c ∈ sig
noncomputable def F_law_tongue : SF := bodyR (b_law_tongue F_law_signs F_law_take) 5
theorem perm_pick (a r : List Nat) (i : Nat) (c : Nat) (e : r[i]? = some c) : List.Perm (a ++ r) ((a ++ [c]) ++ (r.take i ++ r.drop (i + 1))) := by
  obtain ⟨hi, e⟩ := List.getElem?_eq_some_iff.mp e
  have : r = r.take i ++ c :: r.drop (i + 1) := by rw [← e]; simp
  rw [List.append_assoc]
  refine List.Perm.append_left a ?_
  rw [List.singleton_append]
  conv => lhs; rw [this]
  exact List.perm_middle
theorem tongue_ok {o : O} {N : Nat} (P : Hand o N) (hN : N ≤ 999999000) : ∃ l o', Tongue l ∧ Dr F_law_tongue 1 [] o (.str (S l)) o' ∧ Hand o' (N + 7) := by
  obtain ⟨r0, o1, e1, r0a, r0b, P1⟩ := take_ok (m := 6) P (by omega) (by decide) (by decide)
  have lo := forT_all (g := kN 3) (b := b_law_tongue_L0 F_law_signs F_law_take) (fun i : Nat => D.int (0 + (i : Nat)))
    (fun pre τ h => ∃ (rest told : List Nat) (u : O) (t3 t4 : Option D), τ = [some (.ref 0), some (.str (S rest)), some (.str (S told)), t3, t4] ∧ h = [u] ∧ Hand u (N + 1 + pre.length) ∧ told.length = pre.length ∧ (told ++ rest).length = 95 ∧ (told ++ rest).Nodup ∧ ∀ c ∈ told ++ rest, c ∈ sig)
    (List.range (1 + r0).toNat) [some (.ref 0), some (.str (S sig)), some (.str (S [])), none, none] [o1] ?_
    ⟨sig, [], o1, none, none, rfl, rfl, P1, rfl, by simp [sig_len], by simpa using sig_nd, by simp⟩
  · obtain ⟨τ', h', e2, rest, told, u, t3, t4, rfl, rfl, P2, l1, l2, nd, sb⟩ := lo
    rw [List.length_range] at P2 l1
    have T : Tongue told := ⟨by omega, by omega, (List.nodup_append.mp nd).1, fun c hc => sb c (List.mem_append_left _ hc)⟩
    refine ⟨told, u, T, Dr.of rfl (by simp) P.clo (r := .ok (.str (S told)) [u]) ?_ (frzR_clo (clo_str _) (by simpa using cloO_up (by omega) P2.clo)) (clo_str _) P2.clo, P2.up (by omega)⟩
    unfold F_law_tongue
    rw [body_toR]
    unfold b_law_tongue startD
    simp only [List.map_cons, List.map_nil, List.length_cons, List.length_nil, Nat.reduceSub, Nat.reduceAdd, List.replicate, List.cons_append, List.nil_append]
    have c1 := signs_ok [o]
    have c2 := e1 0 [o] rfl
    have em : ("" : Str) = S [] := rfl
    have bd : B62 (1 + r0) := by unfold B62; omega
    have e2 : forL (fun _ => True) (kN 3) (b_law_tongue_L0 F_law_signs F_law_take) (rng 0 (1 + r0).toNat) [some (D.ref 0), some (D.str (S sig)), some (D.str (S [])), none, none] [o1] = _ := e2
    walk_at "ev"
  · rintro pre i post τ h all ⟨rest, told, u, t3, t4, rfl, rfl, P2, l1, l2, nd, sb⟩
    have hlen : pre.length < (1 + r0).toNat := by
      have := congrArg List.length all
      simp at this; omega
    rw [List.length_append] at l2
    obtain ⟨r, u', e2, ra, rb, P3⟩ := take_ok (m := (rest.length : Nat)) P2 (by omega) (by omega) (by omega)
    obtain ⟨j, rfl⟩ := Int.eq_ofNat_of_zero_le ra
    have hj : j < rest.length := by omega
    have gx : rest[j]? = some rest[j] := List.getElem?_eq_getElem hj
    have pp := perm_pick told rest j rest[j] gx
    refine ⟨_, _, rfl, _, _, ?_, rest.take j ++ rest.drop (j + 1), told ++ [rest[j]], u', some (.int (0 + (i : Nat))), some (.int (j : Nat)), rfl, rfl, by simpa [Nat.add_assoc] using P3, by simp [l1], ?_, pp.nodup_iff.mp nd, fun c hc => sb c (pp.mem_iff.mpr hc)⟩
    · unfold b_law_tongue_L0
      have L : ∀ n : Nat, n ≤ 95 → n ≤ LINE := fun n hn => by show n ≤ 16777216; omega
      have c2 := e2 0 [u] rfl
      have x1 : ∀ h, gIx (.str (S rest)) (.int (j : Nat)) h = .ok (.str (S [rest[j]])) h := fun h => ix_S (L _ (by omega)) gx
      have x2 : ∀ h, gLen [.str (S rest)] h = .ok (.int rest.length) h := fun h => len_S (L _ (by omega))
      have x3 : ∀ h, gAddR (.str (S told)) (.str (S [rest[j]])) h = .ok (.str (S (told ++ [rest[j]]))) h := fun h => add_S (L _ (by simp; omega))
      have x4 : ∀ h, gSl2 (.str (S rest)) none (some (j : Int)) h = .ok (.str (S (rest.take j))) h := fun h => to_S j (L _ (by omega))
      have x5 : ∀ h, gSl2 (.str (S rest)) (some ((j : Int) + 1)) none h = .ok (.str (S (rest.drop (j + 1)))) h := fun h => from_S (j + 1) (L _ (by omega))
      have x6 : ∀ h, gAddR (.str (S (rest.take j))) (.str (S (rest.drop (j + 1)))) h = .ok (.str (S (rest.take j ++ rest.drop (j + 1)))) h := fun h => add_S (L _ (by simp; omega))
      clear all hlen
      walk_at "ev"
    · rw [← pp.length_eq]; simpa using l2
end HND
set_option Elab.async false
set_option linter.all false
set_option maxRecDepth 100000
set_option maxHeartbeats 4000000
namespace HND
open PySem PySem.Spec L2 MI AT
theorem forC_all {ck : Hd → Prop} {g : SG} {b : SS} {α : Type} (f : α → D) (I : List α → Sd → Hd → Prop) (c : ∀ pre τ h, I pre τ h → ck h) : ∀ (xs pre : List α) (τ : Sd) (h : Hd),
    (∀ pre' x post τ h, pre ++ xs = pre' ++ x :: post → I pre' τ h → ∃ τ1 h1, g (f x) τ h = .nx τ1 h1 ∧ ∃ τ2 h2, b τ1 h1 = .nx τ2 h2 ∧ I (pre' ++ [x]) τ2 h2) → I pre τ h → ∃ τ' h', forL ck g b (xs.map f) τ h = .nx τ' h' ∧ I (pre ++ xs) τ' h'
  | [], pre, τ, h, _, i0 => ⟨τ, h, by rw [List.map_nil, forL, if_pos (c _ _ _ i0)], by simpa using i0⟩
  | x :: xs, pre, τ, h, st, i0 => by
    obtain ⟨τ1, h1, e1, τ2, h2, e2, i2⟩ := st pre x xs τ h rfl i0
    obtain ⟨τ', h', e3, i3⟩ := forC_all f I c xs (pre ++ [x]) τ2 h2 (fun pre' y post τ h e => st pre' y post τ h (by simpa using e)) i2
    refine ⟨τ', h', ?_, by simpa using i3⟩
    rw [List.map_cons, forL, if_pos (c _ _ _ i0), e1]
    dsimp only
    rw [e2]
    exact e3
abbrev slotD (p : Nat × Nat) : D := .tup [.int (p.1 : Nat), .int (p.2 : Nat)]
abbrev rowO (r : List Int) : O := .lst (r.map D.int)
def refsK (k : Nat) : List D := .ref 2 :: (List.range k).map fun j => .ref (4 + j)
def HP (u : O) (free : List (Nat × Nat)) (r0 : List Int) (rows : List (List Int)) : Hd := u :: .lst (free.map slotD) :: rowO r0 :: .lst (refsK rows.length) :: rows.map rowO
def adr (j : Nat) : Nat := if j = 0 then 2 else 3 + j
theorem refs_at {k j : Nat} (h : j ≤ k) : (refsK k)[j]? = some (.ref (adr j)) := by
  unfold refsK adr
  cases j with
  | zero => rfl
  | succ j =>
    rw [List.getElem?_cons_succ, List.getElem?_map, List.getElem?_range (by omega), if_neg (by omega)]
    simp; omega
theorem refs_len (k : Nat) : (refsK k).length = k + 1 := by simp [refsK]
def setR (r0 : List Int) (rows : List (List Int)) (a b : Nat) (v : Int) : List Int × List (List Int) := if a = 0 then (r0.set b v, rows) else (r0, rows.set (a - 1) ((rows.getD (a - 1) []).set b v))
theorem ixN_nat {n k : Nat} (h : k < n) : ixN n (k : Int) = some k := by unfold ixN; rw [if_pos (by omega), if_pos (by omega)]; simp
theorem put_at {u : O} {free : List (Nat × Nat)} {r0 : List Int} {rows : List (List Int)} {a b s : Nat} {v : Int} (ha : a ≤ rows.length) (hb : b < s) (l0 : r0.length = s) (l1 : ∀ r ∈ rows, r.length = s) :
    put (.ref (adr a)) (.int (b : Nat)) (.int v) (HP u free r0 rows) = some (HP u free (setR r0 rows a b v).1 (setR r0 rows a b v).2) := by
  unfold HP adr setR
  by_cases h0 : a = 0
  · subst h0
    simp only [if_true, put, List.getElem?_cons_succ, List.getElem?_cons_zero, List.length_map, l0, ixN_nat hb, List.set_cons_succ, List.set_cons_zero, List.map_set, rowO]
  · obtain ⟨j, rfl⟩ : ∃ j, a = j + 1 := ⟨a - 1, by omega⟩
    have hj : j < rows.length := by omega
    have lr := l1 rows[j] (List.getElem_mem hj)
    simp only [if_neg h0, put, show 3 + (j + 1) = j + 1 + 1 + 1 + 1 by omega, List.getElem?_cons_succ, List.getElem?_map, List.getElem?_eq_getElem hj, Option.map_some, List.length_map, lr, ixN_nat hb, List.set_cons_succ, Nat.add_sub_cancel, List.length_set, List.map_set, List.getD_eq_getElem?_getD, Option.getD_some, rowO]
theorem setR_ok {r0 : List Int} {rows : List (List Int)} {a b s : Nat} {v n : Int} (ha : a ≤ rows.length) (v0 : 0 ≤ v) (v1 : v < n) (h0 : r0.length = s ∧ ∀ x ∈ r0, 0 ≤ x ∧ x < n) (h1 : ∀ r ∈ rows, r.length = s ∧ ∀ x ∈ r, 0 ≤ x ∧ x < n) :
    ((setR r0 rows a b v).1.length = s ∧ ∀ x ∈ (setR r0 rows a b v).1, 0 ≤ x ∧ x < n) ∧ (setR r0 rows a b v).2.length = rows.length ∧ ∀ r ∈ (setR r0 rows a b v).2, r.length = s ∧ ∀ x ∈ r, 0 ≤ x ∧ x < n := by
  have ins : ∀ {r : List Int} {k : Nat}, (∀ x ∈ r, 0 ≤ x ∧ x < n) → ∀ x ∈ r.set k v, 0 ≤ x ∧ x < n := fun hr x hx => by
    rcases List.mem_or_eq_of_mem_set hx with hx | rfl
    · exact hr x hx
    · exact ⟨v0, v1⟩
  unfold setR
  by_cases z : a = 0
  · rw [if_pos z]
    exact ⟨⟨by simp [h0.1], ins h0.2⟩, rfl, h1⟩
  · rw [if_neg z]
    refine ⟨h0, by simp, fun r hr => ?_⟩
    rcases List.mem_or_eq_of_mem_set hr with hr | rfl
    · exact h1 r hr
    · have hj : a - 1 < rows.length := by omega
      have := h1 rows[a - 1] (List.getElem_mem hj)
      rw [List.getD_eq_getElem?_getD, List.getElem?_eq_getElem hj, Option.getD_some]
      exact ⟨by simp [this.1], ins this.2⟩
theorem seqRefs {u : O} {free : List (Nat × Nat)} {r0 : List Int} {rows : List (List Int)} : seqD (.ref 3) (HP u free r0 rows) = some (refsK rows.length) := rfl
theorem seqFree {u : O} {free : List (Nat × Nat)} {r0 : List Int} {rows : List (List Int)} : seqD (.ref 1) (HP u free r0 rows) = some (free.map slotD) := rfl
theorem goesIx {u : O} {free : List (Nat × Nat)} {r0 : List Int} {rows : List (List Int)} {a : Nat} (ha : a ≤ rows.length) : gIx (.ref 3) (.int (a : Nat)) (HP u free r0 rows) = .ok (.ref (adr a)) (HP u free r0 rows) := by
  rw [ix_ref, seqRefs]
  simp only [atI_nat (refs_at ha)]
noncomputable def F_law_goes : SF := bodyR (b_law_goes F_law_take) 10
theorem frz_rows {u : O} {free : List (Nat × Nat)} {r0 : List Int} {rows : List (List Int)} : frzD 1 (HP u free r0 rows) FU (.ref 3) = some (.rol ((r0 :: rows).map fun r => .rol (r.map D.int))) := by
  have one : ∀ (i : Nat) (r : List Int), 1 ≤ i → (HP u free r0 rows)[i]? = some (rowO r) → frzD 1 (HP u free r0 rows) 19 (.ref i) = some (.rol (r.map D.int)) := fun i r hi e => frzD_lst hi e (clos_map fun x _ => clo_int x)
  have all : optL (frzD 1 (HP u free r0 rows) 19) (refsK rows.length) = some ((r0 :: rows).map fun r => .rol (r.map D.int)) := by
    unfold refsK
    rw [List.map_cons]
    refine optL_cons (one 2 r0 (by omega) rfl) ?_
    have go : ∀ (k : Nat) (rs : List (List Int)), (∀ j r, rs[j]? = some r → rows[k + j]? = some r) → optL (frzD 1 (HP u free r0 rows) 19) ((List.range' k rs.length).map fun j => D.ref (4 + j)) = some (rs.map fun r => .rol (r.map D.int)) := by
      intro k rs
      induction rs generalizing k with
      | nil => intro _; rfl
      | cons r rs ih =>
        intro hk
        rw [List.length_cons, List.range'_succ, List.map_cons, List.map_cons]
        refine optL_cons (one (4 + k) r (by omega) ?_) (ih (k + 1) fun j r' e => ?_)
        · have := hk 0 r rfl
          unfold HP
          rw [show 4 + k = k + 1 + 1 + 1 + 1 by omega]
          simp only [List.getElem?_cons_succ, List.getElem?_map]
          rw [show k + 0 = k by omega] at this
          rw [this]; rfl
        · have := hk (j + 1) r' (by simpa using e)
          rw [show k + 1 + j = k + (j + 1) by omega]; exact this
    have := go 0 rows (fun j r e => by simpa using e)
    rw [← List.range_eq_range'] at this
    exact this
  unfold FU frzD
  rw [if_neg (by simp only [clo]; omega)]
  have e3 : (HP u free r0 rows)[3]? = some (.lst (refsK rows.length)) := rfl
  simp only [e3, all, Option.map_some]
end HND
set_option Elab.async false
set_option linter.all false
set_option maxRecDepth 100000
set_option maxHeartbeats 4000000
namespace MI
open PySem PySem.Spec L2
theorem rng_0 (n : Nat) : rng 0 n = (List.range n).map fun i : Nat => D.int (i : Nat) := by
  unfold rng
  exact List.map_congr_left fun i _ => by rw [Int.zero_add]
theorem rng_k (a : Int) (n : Nat) : rng a n = (List.range n).map fun i : Nat => D.int (a + (i : Nat)) := rfl
theorem b62_nat {n : Nat} (h : n ≤ LINE) : B62 (n : Int) := by
  have : n ≤ 16777216 := h
  unfold B62; omega
theorem b62_k {n : Int} (h : -16777216 ≤ n) (h' : n ≤ 16777216) : B62 n := by unfold B62; omega
theorem rng1_n {n : Nat} (h : Hd) (z : n ≤ LINE) : gRng1 [.int (n : Nat)] h = .ok ⟨(List.range n).map fun i : Nat => D.int (i : Nat), fun _ => True⟩ h := by
  unfold gRng1
  simp only [b62_nat z, if_true, Int.toNat_natCast, rng_0]
theorem rng2_n {a n : Nat} (h : Hd) (za : a ≤ LINE) (z : n ≤ LINE) : gRng2 [.int (a : Nat), .int (n : Nat)] h = .ok ⟨(List.range (n - a)).map fun i : Nat => D.int ((a + i : Nat)), fun _ => True⟩ h := by
  unfold gRng2
  simp only [b62_nat z, b62_nat za, and_self, if_true, rng_k]
  rw [show ((n : Int) - (a : Int)).toNat = n - a by omega]
  congr 2
theorem args1 {f : SE} {τ : Sd} {h : Hd} {d : D} (e : f τ h = .ok d h) : sCons f sNil τ h = .ok [d] h := by unfold sCons sNil; rw [e]; rfl
theorem args2 {f g : SE} {τ : Sd} {h : Hd} {c d : D} (e : f τ h = .ok c h) (e' : g τ h = .ok d h) : sCons f (sCons g sNil) τ h = .ok [c, d] h := by unfold sCons; rw [e, bind_ok, e', bind_ok]; rfl
theorem it_rng1 {f : SE} {τ : Sd} {h : Hd} {n : Nat} (e : f τ h = .ok (.int (n : Nat)) h) (z : n ≤ LINE) : sRg gRng1 (sCons f sNil) τ h = .ok ⟨(List.range n).map fun i : Nat => D.int (i : Nat), fun _ => True⟩ h := by
  unfold sRg
  rw [args1 e, bind_ok]
  exact rng1_n h z
theorem it_rng2 {f g : SE} {τ : Sd} {h : Hd} {a n : Nat} (e' : g τ h = .ok (.int (a : Nat)) h) (e : f τ h = .ok (.int (n : Nat)) h) (za : a ≤ LINE) (z : n ≤ LINE) : sRg gRng2 (sCons g (sCons f sNil)) τ h = .ok ⟨(List.range (n - a)).map fun i : Nat => D.int ((a + i : Nat)), fun _ => True⟩ h := by
  unfold sRg
  rw [args2 e' e, bind_ok]
  exact rng2_n h za z
theorem v_at {i : Nat} {τ : Sd} {h : Hd} {d : D} (e : τ[i]? = some (some d)) : sV i τ h = .ok d h := by unfold sV; rw [e]
theorem comp_pure {fi : SI} {t : D → Option Sd} {fe : SE} {ix : List Nat} {τ : Sd} {h : Hd} {α : Type} (g F : α → D) (xs : List α) (e : fi τ h = .ok ⟨xs.map g, fun _ => True⟩ h) (z : xs.length ≤ LINE)
    (st : ∀ x ∈ xs, bindT t fe (frs' ix τ) (g x) h = .ok (F x) h) : sComp fi t fe ix τ h = .ok (.ref h.length) (h ++ [.lst (xs.map F)]) := by
  unfold sComp
  rw [e, bind_ok]
  dsimp only
  rw [if_pos (by rw [List.length_map]; exact z), mapT_pure g F st]
  rfl
theorem comp_filt {fi : SI} {t : D → Option Sd} {c : ST} {fe : SE} {ix : List Nat} {τ : Sd} {h : Hd} {α : Type} (g : α → D) (F : α → Option D) (xs : List α) (e : fi τ h = .ok ⟨xs.map g, fun _ => True⟩ h) (z : xs.length ≤ LINE)
    (st : ∀ x ∈ xs, bindF t c fe (frs' ix τ) (g x) h = .ok (F x) h) : sCompF fi t c fe ix τ h = .ok (.ref h.length) (h ++ [.lst (xs.filterMap F)]) := by
  unfold sCompF
  rw [e, bind_ok]
  dsimp only
  rw [if_pos (by rw [List.length_map]; exact z), mapF_pure g F st]
  rfl
theorem bindT_1 (fe : SE) (r : Sd) (x : D) (h : Hd) : bindT t1 fe r x h = fe (some x :: r) h := rfl
theorem bindF_1 (c : ST) (fe : SE) (r : Sd) (x : D) (h : Hd) : bindF t1 c fe r x h = (c (some x :: r) h).bind fun b h1 => if b = true then (fe (some x :: r) h1).bind fun y h2 => .ok (some y) h2 else .ok none h1 := rfl
theorem frs_cons (i : Nat) (ix : List Nat) (τ : Sd) : frs' (i :: ix) τ = (τ[i]?).join :: frs' ix τ := rfl
theorem frs_nil (τ : Sd) : frs' [] τ = [] := rfl
end MI
set_option Elab.async false
set_option linter.all false
set_option maxRecDepth 100000
set_option maxHeartbeats 4000000
namespace HND
open PySem PySem.Spec L2 MI AT
theorem range_mid {k i : Nat} {pre post : List Nat} (h : List.range k = pre ++ i :: post) : i = pre.length ∧ i < k := by
  have h1 := congrArg (fun l => l[pre.length]?) h
  have h2 := congrArg List.length h
  simp at h1 h2
  have : pre.length < k := by omega
  rw [List.getElem?_range this] at h1
  simp at h1
  omega
abbrev RowOk (s n : Nat) (r : List Int) : Prop := r.length = s ∧ ∀ x ∈ r, 0 ≤ x ∧ x < (n : Int)
theorem HP_len {u : O} {free : List (Nat × Nat)} {r0 : List Int} {rows : List (List Int)} : (HP u free r0 rows).length = 4 + rows.length := by simp [HP]; omega
theorem HP_clo {u : O} {free : List (Nat × Nat)} {r0 : List Int} {rows : List (List Int)} (c : cloO 0 u) : ∀ o ∈ HP u free r0 rows, cloO (HP u free r0 rows).length o := by
  intro o ho
  rw [HP_len]
  have rw1 : ∀ r : List Int, cloO (4 + rows.length) (rowO r) := fun r => clos_map fun x _ => clo_int x
  rcases List.mem_cons.mp ho with rfl | ho
  · exact cloO_up (by omega) c
  rcases List.mem_cons.mp ho with rfl | ho
  · exact clos_map fun x _ => clo_tup (clos_cons (clo_int _) (clos_cons (clo_int _) clos_nil))
  rcases List.mem_cons.mp ho with rfl | ho
  · exact rw1 _
  rcases List.mem_cons.mp ho with rfl | ho
  · show clos _ (refsK rows.length)
    refine clos_cons (by simp only [clo]; omega) ?_
    rw [clos_iff]
    intro x hx
    obtain ⟨j, hj, rfl⟩ := List.mem_map.mp hx
    rw [List.mem_range] at hj
    simp only [clo]; omega
  · obtain ⟨r, _, rfl⟩ := List.mem_map.mp ho
    exact rw1 r
theorem map_erase {α β : Type} (f : α → β) : ∀ (l : List α) (k : Nat), (l.eraseIdx k).map f = (l.map f).eraseIdx k
  | [], _ => rfl
  | _ :: _, 0 => rfl
  | x :: l, k + 1 => by simp [List.eraseIdx, map_erase f l k]
theorem pop_free {u : O} {free : List (Nat × Nat)} {r0 : List Int} {rows : List (List Int)} {k : Nat} {p : Nat × Nat} (e : free[k]? = some p) (z : free.length ≤ LINE) : gPopAt (.ref 1) [.int (k : Nat)] (HP u free r0 rows) = .ok (slotD p) (HP u (free.eraseIdx k) r0 rows) := by
  have hk : k < free.length := (List.getElem?_eq_some_iff.mp e).1
  have e1 : (HP u free r0 rows)[1]? = some (.lst (free.map slotD)) := rfl
  unfold gPopAt
  simp only [e1, List.length_map, ixN_nat hk, List.getElem?_map, e, Option.map_some, if_pos z, ← map_erase]
  rfl
theorem ext_free {u : O} {free more : List (Nat × Nat)} {r0 : List Int} {rows : List (List Int)} (z : free.length + more.length ≤ LINE) : gExtR (.ref 1) [.rol (more.map slotD)] (HP u free r0 rows) = .ok .non (HP u (free ++ more) r0 rows) := by
  have e1 : (HP u free r0 rows)[1]? = some (.lst (free.map slotD)) := rfl
  unfold gExtR
  simp only [e1, lstOf, List.length_map, if_pos z, ← List.map_append]
  rfl
theorem app_row {u : O} {free : List (Nat × Nat)} {r0 r : List Int} {rows : List (List Int)} (z : rows.length + 1 < LINE) : gApp (.ref 3) [.ref (HP u free r0 rows).length] (HP u free r0 rows ++ [rowO r]) = .ok .non (HP u free r0 (rows ++ [r])) := by
  have e1 : (HP u free r0 rows ++ [rowO r])[3]? = some (.lst (refsK rows.length)) := rfl
  unfold gApp
  simp only [e1, refs_len, if_pos z]
  rw [HP_len]
  unfold HP
  simp [refsK, List.range_succ]
theorem mul_zero {s : Nat} {h : Hd} (z : s ≤ LINE) : gMulR (.rol [.int 0]) (.int (s : Nat)) h = .ok (.ref h.length) (h ++ [rowO (List.replicate s 0)]) := by
  unfold gMulR
  have z' : s ≤ 16777216 := z
  simp only [lstOf, List.length_cons, List.length_nil, Int.toNat_natCast]
  rw [if_pos ⟨⟨by omega, by omega⟩, by show _ ≤ 16777216; omega⟩]
  congr 3
  simp [rowO]
theorem comp_goes {u : O} {free : List (Nat × Nat)} {r0 : List Int} {rows : List (List Int)} {s room : Nat} {τ : Sd} (c : cloO 0 u) (z : s ≤ LINE) (z6 : s ≤ 6) (t1' : τ[1]? = some (some (.int (s : Nat)))) (t6 : τ[6]? = some (some (.int (room : Nat)))) :
    sZ (sComp (sRg gRng1 (sCons (sV 1) sNil)) t1 (b_law_goes_C1 F_law_take) [6]) τ (HP u free r0 rows) = .ok (.rol (((List.range s).map fun j => (room, j)).map slotD)) (HP u free r0 rows) := by
  refine z_lst ?_ (clos_map fun x _ => clo_tup (clos_cons (clo_int _) (clos_cons (clo_int _) clos_nil))) (HP_clo c)
  rw [List.map_map]
  refine comp_pure (fun i : Nat => D.int (i : Nat)) (fun j : Nat => slotD (room, j)) (List.range s) ?_ (by rw [List.length_range]; exact z) fun x _ => ?_
  · exact it_rng1 (v_at t1') z
  · rw [bindT_1, frs_cons, frs_nil, t6]
    unfold b_law_goes_C1
    simp only [Option.join_some, sA, sCons, sNil, sV, List.getElem?_cons_zero, List.getElem?_cons_succ, bind_ok, MI.gTup, List.length_cons, List.length_nil, Nat.reduceAdd, if_pos (show (2:Nat) ≤ LINE by decide)]
end HND
set_option Elab.async false
set_option linter.all false
set_option maxRecDepth 100000
set_option maxHeartbeats 4000000
namespace MI
open PySem PySem.Spec L2
section
variable {f k f1 f2 f3 : SE} {c c1 c2 : ST} {g p q : SS} {τ τ1 : Sd} {h h1 h2 h3 h4 : Hd} {a b d v : D} {i : Nat} {t u : Bool}
theorem c_ok (d : D) (τ : Sd) (h : Hd) : sC d τ h = .ok d h := rfl
theorem a0of {G : List D → Hd → R D} (e3 : G [] h = .ok v h1) : sA G sNil τ h = .ok v h1 := e3
theorem a1of {G : List D → Hd → R D} (e1 : f τ h = .ok a h1) (e3 : G [a] h1 = .ok v h2) : sA G (sCons f sNil) τ h = .ok v h2 := by
  have : sCons f sNil τ h = .ok [a] h1 := by unfold sCons; rw [e1]; rfl
  unfold sA
  rw [this, bind_ok, e3]
theorem a2of {G : List D → Hd → R D} (e1 : f τ h = .ok a h1) (e2 : k τ h1 = .ok b h2) (e3 : G [a, b] h2 = .ok v h3) : sA G (sCons f (sCons k sNil)) τ h = .ok v h3 := by
  have : sCons f (sCons k sNil) τ h = .ok [a, b] h2 := by unfold sCons; rw [e1, bind_ok, e2]; rfl
  unfold sA
  rw [this, bind_ok, e3]
theorem a3of {G : List D → Hd → R D} (e0 : f1 τ h = .ok d h1) (e1 : f τ h1 = .ok a h2) (e2 : k τ h2 = .ok b h3) (e3 : G [d, a, b] h3 = .ok v h4) : sA G (sCons f1 (sCons f (sCons k sNil))) τ h = .ok v h4 := by
  have : sCons f1 (sCons f (sCons k sNil)) τ h = .ok [d, a, b] h3 := by unfold sCons; rw [e0, bind_ok, e1, bind_ok, e2]; rfl
  unfold sA
  rw [this, bind_ok, e3]
theorem setof (e : f τ h = .ok d h1) : sSeq (sSet i f) g τ h = g (τ.set i (some d)) h1 := by
  rw [sSeq_thn]
  unfold sSet
  rw [e]
  rfl
theorem setL (e : f τ h = .ok d h1) : sSet i f τ h = .nx (τ.set i (some d)) h1 := by
  unfold sSet
  rw [e]
  rfl
theorem seqof (e : p τ h = .nx τ1 h1) : sSeq p g τ h = g τ1 h1 := by rw [sSeq_thn, e]; rfl
theorem seqrt (e : p τ h = .rt d h1) : sSeq p g τ h = .rt d h1 := by rw [sSeq_thn, e]; rfl
theorem ifT (e : c τ h = .ok true h1) : sIf c p q τ h = p τ h1 := by unfold sIf; rw [e]; rfl
theorem ifF (e : c τ h = .ok false h1) : sIf c p q τ h = q τ h1 := by unfold sIf; rw [e]; rfl
theorem ifN (e : c τ h = .ok false h1) : sSeq (sIf c p sNx) g τ h = g τ h1 := by rw [sSeq_thn, ifF e]; rfl
theorem tof (e : f τ h = .ok (.bl t) h1) : sT f τ h = .ok t h1 := by unfold sT; rw [e]; rfl
theorem truof (e : f τ h = .ok d h1) (e' : tru d h1 = .ok t h2) : sTru f τ h = .ok t h2 := by unfold sTru; rw [e, bind_ok, e']
theorem andT (e : c1 τ h = .ok true h1) (e' : c2 τ h1 = .ok t h2) : sAnd c1 c2 τ h = .ok t h2 := by unfold sAnd; rw [e, bind_ok, if_pos rfl, e']
theorem andF (e : c1 τ h = .ok false h1) : sAnd c1 c2 τ h = .ok false h1 := by unfold sAnd; rw [e, bind_ok, if_neg (by simp)]
theorem orF (e : c1 τ h = .ok false h1) (e' : c2 τ h1 = .ok t h2) : sOr c1 c2 τ h = .ok t h2 := by unfold sOr; rw [e, bind_ok, if_neg (by simp), e']
theorem notof (e : c τ h = .ok t h1) : sNot c τ h = .ok (!t) h1 := by unfold sNot; rw [e]; rfl
theorem notT (e : c τ h = .ok true h1) : sNot c τ h = .ok false h1 := notof e
theorem notF (e : c τ h = .ok false h1) : sNot c τ h = .ok true h1 := notof e
theorem retof (e : f τ h = .ok d h1) : sRet f τ h = .rt d h1 := by unfold sRet; rw [e]; rfl
theorem andVT (e : f τ h = .ok (.bl true) h1) (e' : k τ h1 = .ok d h2) : sAndV f k τ h = .ok d h2 := by unfold sAndV; rw [e, bind_ok]; exact e'
theorem dropML {G : D → List D → Hd → R D} {A : SA} {ds : List D} (e1 : f τ h = .ok d h1) (l : isL d h1 = true) (e2 : A τ h1 = .ok ds h2) (e3 : G d ds h2 = .ok v h3) : sDrop (sML G f A) τ h = .nx τ h3 := by
  unfold sDrop sML
  rw [e1, bind_ok, if_pos l, e2, bind_ok, e3]
  rfl
theorem valML {G : D → List D → Hd → R D} {A : SA} {ds : List D} (e1 : f τ h = .ok d h1) (l : isL d h1 = true) (e2 : A τ h1 = .ok ds h2) (e3 : G d ds h2 = .ok v h3) : sML G f A τ h = .ok v h3 := by
  unfold sML
  rw [e1, bind_ok, if_pos l, e2, bind_ok, e3]
theorem arg1 (e : f τ h = .ok d h1) : sCons f sNil τ h = .ok [d] h1 := by unfold sCons sNil; rw [e]; rfl
theorem s2of {G : D → D → Hd → R D} (e1 : f τ h = .ok a h1) (e2 : k τ h1 = .ok b h2) (e3 : G a b h2 = .ok v h3) : s2 G f k τ h = .ok v h3 := by
  unfold s2
  rw [e1, bind_ok, e2, bind_ok, e3]
theorem s1of {G : D → Hd → R D} (e1 : f τ h = .ok a h1) (e3 : G a h1 = .ok v h2) : s1 G f τ h = .ok v h2 := by
  unfold s1
  rw [e1, bind_ok, e3]
theorem asgof {G : SG} (e : f τ h = .ok d h1) (e2 : G d τ h1 = .nx τ1 h2) : sAsg f G τ h = .nx τ1 h2 := by
  unfold sAsg
  rw [e, fl_ok, e2]
theorem putof (e1 : f1 τ h = .ok v h1) (e2 : f2 τ h1 = .ok a h2) (e3 : f3 τ h2 = .ok b h3) (e4 : put a b v h3 = some h4) : sPut f1 f2 f3 τ h = .nx τ h4 := by
  unfold sPut
  rw [e1, fl_ok, e2, fl_ok, e3, fl_ok, e4]
theorem forof {fi : SI} {G : SG} {b : SS} {xs : List D} {ck : Hd → Prop} (e : fi τ h = .ok ⟨xs, ck⟩ h1) : sSeq (sFor fi G b) g τ h = thn (forL ck G b xs τ h1) g := by
  rw [sSeq_thn]
  unfold sFor
  rw [e]
  rfl
theorem itof {xs : List D} {ck : Hd → Prop} (e : f τ h = .ok d h1) (e2 : itOf d h1 = .ok ⟨xs, ck⟩ h1) : sIt f τ h = .ok ⟨xs, ck⟩ h1 := by
  unfold sIt
  rw [e, bind_ok, e2]
theorem app_at {xs : List D} (e : h[i]? = some (.lst xs)) (z : xs.length < LINE) : gApp (.ref i) [a] h = .ok .non (h.set i (.lst (xs ++ [a]))) := by
  unfold gApp
  simp only [e, if_pos z]
theorem put_l {xs : List D} {j : Nat} (e : h[i]? = some (.lst xs)) (hj : j < xs.length) : put (.ref i) (.int (j : Nat)) v h = some (h.set i (.lst (xs.set j v))) := by
  have : ixN xs.length (j : Int) = some j := by unfold ixN; rw [if_pos (by omega), if_pos (by omega)]; simp
  unfold put
  simp only [e, this]
theorem pop_lst {xs : List D} {j : Nat} {y : D} (e : h[i]? = some (.lst xs)) (hj : xs[j]? = some y) (z : xs.length ≤ LINE) : gPopAt (.ref i) [.int (j : Nat)] h = .ok y (h.set i (.lst (xs.eraseIdx j))) := by
  have lt : j < xs.length := (List.getElem?_eq_some_iff.mp hj).1
  have : ixN xs.length (j : Int) = some j := by unfold ixN; rw [if_pos (by omega), if_pos (by omega)]; simp
  unfold gPopAt
  simp only [e, this, hj, if_pos z]
theorem ix_lst {xs : List D} {j : Nat} {y : D} (e : h[i]? = some (.lst xs)) (hj : xs[j]? = some y) : gIx (.ref i) (.int (j : Nat)) h = .ok y h := by
  rw [ix_ref]
  unfold seqD
  simp only [e, atI_nat hj]
theorem ix_r {xs : List D} {j : Nat} {y : D} (hj : xs[j]? = some y) : gIx (.rol xs) (.int (j : Nat)) h = .ok y h := by
  rw [ix_rol]
  simp only [atI_nat hj]
theorem ix_t {xs : List D} {j : Nat} {y : D} (hj : xs[j]? = some y) : gIx (.tup xs) (.int (j : Nat)) h = .ok y h := by
  rw [ix_tup]
  simp only [atI_nat hj]
theorem len_lst {xs : List D} (e : h[i]? = some (.lst xs)) : gLen [.ref i] h = .ok (.int (xs.length : Nat)) h := by
  rw [len_ref]
  unfold seqD
  simp only [e]
theorem tup_lst {xs : List D} (e : h[i]? = some (.lst xs)) : gTuple [.ref i] h = .ok (.tup xs) h := by
  unfold gTuple seqD
  simp only [e]
theorem div_ii {x y : Int} (c : 0 < y ∧ y < 1073741824) : gDiv (.int x) (.int y) h = .ok (.int (x / y)) h := by unfold gDiv; exact if_pos c
theorem mod_ii {x y : Int} (c : 0 < y) : gMod (.int x) (.int y) h = .ok (.int (x % y)) h := by unfold gMod; exact if_pos c
theorem gt_t {x y : Int} (c : y < x) : gGt (.int x) (.int y) h = .ok (.bl true) h := by unfold gGt; simp only [c, decide_true]
theorem gt_f {x y : Int} (c : ¬ y < x) : gGt (.int x) (.int y) h = .ok (.bl false) h := by unfold gGt; simp only [c, decide_false]
theorem lt_t {x y : Int} (c : x < y) : gLt (.int x) (.int y) h = .ok (.bl true) h := by unfold gLt; simp only [c, decide_true]
theorem lt_f {x y : Int} (c : ¬ x < y) : gLt (.int x) (.int y) h = .ok (.bl false) h := by unfold gLt; simp only [c, decide_false]
theorem eqi_t {x y : Int} (c : x = y) : hEq (.int x) (.int y) h = .ok (.bl true) h := by rw [eq_ii, c, beq_self_eq_true]
theorem eqi_f {x y : Int} (c : ¬ x = y) : hEq (.int x) (.int y) h = .ok (.bl false) h := by rw [eq_ii, beq_eq_false_iff_ne.mpr c]
theorem neg_i (x : Int) : gNeg (.int x) h = .ok (.int (-x)) h := rfl
theorem sub_ii (x y : Int) : MI.gSub (.int x) (.int y) h = .ok (.int (x - y)) h := rfl
theorem lineOk {n : Nat} (h : n ≤ 1000000) : n ≤ LINE := by show n ≤ 16777216; omega
theorem lineLt {n : Nat} (h : n ≤ 1000000) : n < LINE := by show n < 16777216; omega
theorem tup2 : MI.gTup [a, b] h = .ok (.tup [a, b]) h := by unfold MI.gTup; rw [if_pos (lineOk (by simp))]
theorem tup3 : MI.gTup [a, b, v] h = .ok (.tup [a, b, v]) h := by unfold MI.gTup; rw [if_pos (lineOk (by simp))]
end
end MI
set_option Elab.async false
set_option linter.all false
set_option maxRecDepth 100000
set_option maxHeartbeats 4000000
namespace HND
open PySem PySem.Spec L2 MI AT
theorem isL1 {u : O} {free : List (Nat × Nat)} {r0 : List Int} {rows : List (List Int)} : isL (.ref 1) (HP u free r0 rows) = true := rfl
theorem isL3 {u : O} {free : List (Nat × Nat)} {r0 : List Int} {rows : List (List Int)} : isL (.ref 3) (HP u free r0 rows) = true := rfl
theorem lenF {u : O} {free : List (Nat × Nat)} {r0 : List Int} {rows : List (List Int)} : gLen [.ref 1] (HP u free r0 rows) = .ok (.int (free.length : Nat)) (HP u free r0 rows) := by
  rw [len_ref, seqFree]
  simp only [List.length_map]
theorem goes_turn {o : O} {N s n i : Nat} {m : Int} {free : List (Nat × Nat)} {r0 : List Int} {rows : List (List Int)} {t6 t7 t8 t9 : Option D} (P : Hand o N) (hN : N ≤ 999999000) (s1 : 1 ≤ s) (s6 : s ≤ 6) (n32 : n ≤ 32) (hi : 1 + i < n) (lr : rows.length = i) (f1 : s ≤ free.length) (f2 : free.length ≤ 1000) (ff : ∀ p ∈ free, p.1 ≤ i ∧ p.2 < s) (q0 : RowOk s n r0) (q1 : ∀ r ∈ rows, RowOk s n r) :
    ∃ (u : O) (free' : List (Nat × Nat)) (r0' : List Int) (rows' : List (List Int)) (z7 z8 z9 : Option D), b_law_goes_L2 F_law_take [some (.ref 0), some (.int (s : Nat)), some (.int (n : Nat)), some (.int m), some (.ref 1), some (.ref 3), some (.int ((1 + i : Nat))), t7, t8, t9] (HP o free r0 rows) = .nx [some (.ref 0), some (.int (s : Nat)), some (.int (n : Nat)), some (.int m), some (.ref 1), some (.ref 3), some (.int ((1 + i : Nat))), z7, z8, z9] (HP u free' r0' rows')
      ∧ Hand u (N + 2) ∧ rows'.length = i + 1 ∧ s ≤ free'.length ∧ free'.length ≤ free.length + s ∧ (∀ p ∈ free', p.1 ≤ i + 1 ∧ p.2 < s) ∧ RowOk s n r0' ∧ ∀ r ∈ rows', RowOk s n r := by
  obtain ⟨x, o1, e1, x0, x1, P1⟩ := take_ok (m := (s : Nat)) P (by omega) (by omega) (by omega)
  obtain ⟨y, o2, e2, y0, y1, P2⟩ := take_ok (m := (free.length : Nat)) P1 (by omega) (by omega) (by omega)
  obtain ⟨k, u, hk, Pu, ek⟩ : ∃ (k : Nat) (u : O), k < free.length ∧ Hand u (N + 2) ∧ ∀ τ : Sd, ∀ τ' : Sd, τ = [some (.ref 0), some (.int (s : Nat)), some (.int (n : Nat)), some (.int m), some (.ref 1), some (.ref 3), some (.int ((1 + i : Nat))), t7, t8, t9] → τ' = [some (.ref 0), some (.int (s : Nat)), some (.int (n : Nat)), some (.int m), some (.ref 1), some (.ref 3), some (.int ((1 + i : Nat))), some (.int (k : Nat)), t8, t9] → ∀ g : SS,
      (sSeq (sSet 7 (s2 gSub (s2 gSub (sA gLen (sCons (sV 4) sNil)) (sC (.int 1))) (sA (sLoc false 2 F_law_take) (sCons (sV 0) (sCons (sV 1) sNil)))))
 (sSeq (sIf (sT (s2 hEq (sV 3) (sC (.int 0))))
  (sSet 7 (sA (sLoc false 2 F_law_take) (sCons (sV 0) (sCons (sA gLen (sCons (sV 4) sNil)) sNil))))
  sNx) g)) τ (HP o free r0 rows) = g τ' (HP u free r0 rows) := by
    have c1 : sLoc false 2 F_law_take [.ref 0, .int (s : Nat)] (HP o free r0 rows) = .ok (.int x) (HP o1 free r0 rows) := e1 0 _ rfl
    have c2 : sLoc false 2 F_law_take [.ref 0, .int (free.length : Nat)] (HP o1 free r0 rows) = .ok (.int y) (HP o2 free r0 rows) := e2 0 _ rfl
    have l1 := @lenF o free r0 rows
    have l2 := @lenF o1 free r0 rows
    by_cases hm : m = 0
    · obtain ⟨k, rfl⟩ := Int.eq_ofNat_of_zero_le y0
      refine ⟨k, o2, by omega, P2, fun τ τ' eτ eτ' g => ?_⟩
      subst eτ eτ' hm
      simp only [sSeq_thn, thn_nx, sSet, sIf, sV, sC, s2, sA, sCons, sNil, sNx, sT, asB, bind_ok, fl_ok, MI.gSub, eq_ii, l1, l2, c1, c2, List.getElem?_cons_zero, List.getElem?_cons_succ, List.set_cons_zero, List.set_cons_succ, beq_self_eq_true, if_true, sTru, tru_bl]
    · have hb : (m == 0) = false := by simpa using hm
      refine ⟨(free.length - 1 - x).toNat, o1, by omega, P1.up (by omega), fun τ τ' eτ eτ' g => ?_⟩
      subst eτ eτ'
      rw [show (((free.length : Int) - 1 - x).toNat : Int) = (free.length : Int) - 1 - x by omega]
      simp only [sSeq_thn, thn_nx, sSet, sIf, sV, sC, s2, sA, sCons, sNil, sNx, sT, asB, bind_ok, fl_ok, MI.gSub, eq_ii, l1, l2, c1, c2, List.getElem?_cons_zero, List.getElem?_cons_succ, List.set_cons_zero, List.set_cons_succ, hb, Bool.false_eq_true, if_false, sTru, tru_bl]
  have gk : free[k]? = some free[k] := List.getElem?_eq_getElem hk
  obtain ⟨fa, fb⟩ := ff free[k] (List.getElem_mem hk)
  generalize free[k] = p at gk fa fb
  have l0 := lineOk (n := free.length) (by omega)
  have so := setR_ok (b := p.2) (v := ((1 + i : Nat) : Int)) (by omega : p.1 ≤ rows.length) (by omega) (by omega : ((1 + i : Nat) : Int) < (n : Int)) q0 q1
  refine ⟨u, free.eraseIdx k ++ (List.range s).map (fun j => (1 + i, j)), (setR r0 rows p.1 p.2 ((1 + i : Nat) : Int)).1, (setR r0 rows p.1 p.2 ((1 + i : Nat) : Int)).2 ++ [List.replicate s 0], some (.int (k : Nat)), some (.int (p.1 : Nat)), some (.int (p.2 : Nat)), ?_, Pu, ?_, ?_, ?_, ?_, so.1, ?_⟩
  · unfold b_law_goes_L2
    rw [ek _ _ rfl rfl]
    rw [sSeq_thn]
    have st1 : ∀ τ : Sd, τ = [some (.ref 0), some (.int (s : Nat)), some (.int (n : Nat)), some (.int m), some (.ref 1), some (.ref 3), some (.int ((1 + i : Nat))), some (.int (k : Nat)), t8, t9] → sAsg (sML gPopAt (sV 4) (sCons (sV 7) sNil)) (kTup 2 (kCons (kN 8) (kCons (kN 9) kNil))) τ (HP u free r0 rows) = .nx [some (.ref 0), some (.int (s : Nat)), some (.int (n : Nat)), some (.int m), some (.ref 1), some (.ref 3), some (.int ((1 + i : Nat))), some (.int (k : Nat)), some (.int (p.1 : Nat)), some (.int (p.2 : Nat))] (HP u (free.eraseIdx k) r0 rows) := by
      rintro τ rfl
      unfold sAsg
      rw [valML (v_at rfl) isL1 (arg1 (v_at rfl)) (pop_free gk l0)]
      rfl
    rw [st1 _ rfl, thn_nx, sSeq_thn]
    generalize HT : ([some (.ref 0), some (.int (s : Nat)), some (.int (n : Nat)), some (.int m), some (.ref 1), some (.ref 3), some (.int ((1 + i : Nat))), some (.int (k : Nat)), some (.int (p.1 : Nat)), some (.int (p.2 : Nat))] : Sd) = τ
    have pa := put_at (u := u) (free := free.eraseIdx k) (v := ((1 + i : Nat) : Int)) (by omega : p.1 ≤ rows.length) fb q0.1 fun r hr => (q1 r hr).1
    have st2 : sPut (sV 6) (s2 gIx (sV 5) (sV 8)) (sV 9) τ (HP u (free.eraseIdx k) r0 rows) = .nx τ (HP u (free.eraseIdx k) (setR r0 rows p.1 p.2 ((1 + i : Nat) : Int)).1 (setR r0 rows p.1 p.2 ((1 + i : Nat) : Int)).2) := by
      subst HT
      unfold sPut
      rw [v_at rfl, fl_ok, s2of (v_at rfl) (v_at rfl) (goesIx (by omega)), fl_ok, v_at rfl, fl_ok, pa]
    rw [st2, thn_nx, sSeq_thn]
    generalize (setR r0 rows p.1 p.2 ((1 + i : Nat) : Int)).1 = r0' at so
    generalize (setR r0 rows p.1 p.2 ((1 + i : Nat) : Int)).2 = rows' at so
    have st3 : sDrop (sML gApp (sV 5) (sCons (s2 gMulR (sZ (sA gLst (sCons (sC (.int 0)) sNil))) (sV 1)) sNil)) τ (HP u (free.eraseIdx k) r0' rows') = .nx τ (HP u (free.eraseIdx k) r0' (rows' ++ [List.replicate s 0])) := by
      subst HT
      exact dropML (v_at rfl) isL3 (arg1 (s2of (z_lst (xs := [.int 0]) rfl (clos_cons (clo_int _) clos_nil) (HP_clo Pu.clo)) (v_at rfl) (mul_zero (lineOk (by omega))))) (app_row (by have := so.2.1; have := lineOk (n := rows'.length + 2) (by omega); omega))
    rw [st3, thn_nx]
    subst HT
    refine dropML (v_at rfl) isL1 (arg1 (comp_goes Pu.clo (lineOk (by omega)) s6 rfl rfl)) (ext_free (lineOk ?_))
    simp only [List.length_eraseIdx, List.length_map, List.length_range]
    split <;> omega
  · rw [List.length_append, so.2.1, lr]; rfl
  · simp only [List.length_append, List.length_eraseIdx, List.length_map, List.length_range]
    split <;> omega
  · simp only [List.length_append, List.length_eraseIdx, List.length_map, List.length_range]
    split <;> omega
  · intro q hq
    rcases List.mem_append.mp hq with h | h
    · have := ff q (List.mem_of_mem_eraseIdx h)
      omega
    · obtain ⟨j, hj, rfl⟩ := List.mem_map.mp h
      rw [List.mem_range] at hj
      exact ⟨by simp only []; omega, hj⟩
  · intro r hr
    rcases List.mem_append.mp hr with h | h
    · exact so.2.2 r h
    · rw [List.mem_singleton] at h
      subst h
      exact ⟨by simp, fun x hx => by rw [List.eq_of_mem_replicate hx]; omega⟩
theorem goes_fill {o : O} {N s n : Nat} {p : Nat × Nat} {free : List (Nat × Nat)} {r0 : List Int} {rows : List (List Int)} {t3 t6 t7 : Option D} (P : Hand o N) (hN : N ≤ 999999000) (n1 : 1 ≤ n) (n32 : n ≤ 32) (pa : p.1 ≤ rows.length) (pb : p.2 < s) (q0 : RowOk s n r0) (q1 : ∀ r ∈ rows, RowOk s n r) :
    ∃ (u : O) (r0' : List Int) (rows' : List (List Int)), b_law_goes_L3 F_law_take [some (.ref 0), some (.int (s : Nat)), some (.int (n : Nat)), t3, some (.ref 1), some (.ref 3), t6, t7, some (.int (p.1 : Nat)), some (.int (p.2 : Nat))] (HP o free r0 rows) = .nx [some (.ref 0), some (.int (s : Nat)), some (.int (n : Nat)), t3, some (.ref 1), some (.ref 3), t6, t7, some (.int (p.1 : Nat)), some (.int (p.2 : Nat))] (HP u free r0' rows')
      ∧ Hand u (N + 1) ∧ rows'.length = rows.length ∧ RowOk s n r0' ∧ ∀ r ∈ rows', RowOk s n r := by
  obtain ⟨x, o1, e1, x0, x1, P1⟩ := take_ok (m := (n : Nat)) P (by omega) (by omega) (by omega)
  have so := setR_ok (b := p.2) pa x0 x1 q0 q1
  have pa' := put_at (u := o1) (free := free) (v := x) pa pb q0.1 fun r hr => (q1 r hr).1
  refine ⟨o1, _, _, ?_, P1, so.2.1, so.1, so.2.2⟩
  have c1 : sLoc false 2 F_law_take [.ref 0, .int (n : Nat)] (HP o free r0 rows) = .ok (.int x) (HP o1 free r0 rows) := e1 0 _ rfl
  unfold b_law_goes_L3 sPut
  generalize HT : ([some (.ref 0), some (.int (s : Nat)), some (.int (n : Nat)), t3, some (.ref 1), some (.ref 3), t6, t7, some (.int (p.1 : Nat)), some (.int (p.2 : Nat))] : Sd) = τ
  have a1 : (sA (sLoc false 2 F_law_take) (sCons (sV 0) (sCons (sV 2) sNil))) τ (HP o free r0 rows) = .ok (.int x) (HP o1 free r0 rows) := by
    subst HT
    unfold sA
    rw [args2 (v_at rfl) (v_at rfl), bind_ok, c1]
  rw [a1, fl_ok]
  subst HT
  rw [s2of (v_at rfl) (v_at rfl) (goesIx pa), fl_ok, v_at rfl, fl_ok, pa']
end HND
set_option Elab.async false
set_option linter.all false
set_option maxRecDepth 100000
set_option maxHeartbeats 4000000
namespace HND
open PySem PySem.Spec L2 MI AT
theorem goes_ok {o : O} {N s n : Nat} (P : Hand o N) (hN : N ≤ 999990000) (s1 : 1 ≤ s) (s6 : s ≤ 6) (n1 : 1 ≤ n) (n32 : n ≤ 32) :
    ∃ (rows : List (List Int)) (o' : O), rows.length = n ∧ (∀ r ∈ rows, RowOk s n r) ∧ Dr F_law_goes 3 [.int (s : Nat), .int (n : Nat)] o (.rol (rows.map fun r => .rol (r.map D.int))) o' ∧ Hand o' (N + 1000) := by
  obtain ⟨m, o1, e1, m0, m1, P1⟩ := take_ok (m := 2) P (by omega) (by omega) (by omega)
  have z : RowOk s n (List.replicate s 0) := ⟨by simp, fun x hx => by rw [List.eq_of_mem_replicate hx]; omega⟩
  have lo := forT_all (g := kN 6) (b := b_law_goes_L2 F_law_take) (fun i : Nat => D.int ((1 + i : Nat)))
    (fun pre τ h => ∃ (u : O) (free : List (Nat × Nat)) (r0 : List Int) (rows : List (List Int)) (t6 t7 t8 t9 : Option D), τ = [some (.ref 0), some (.int (s : Nat)), some (.int (n : Nat)), some (.int m), some (.ref 1), some (.ref 3), t6, t7, t8, t9] ∧ h = HP u free r0 rows ∧ Hand u (N + 1 + 2 * pre.length) ∧ rows.length = pre.length ∧ s ≤ free.length ∧ free.length ≤ s + s * pre.length ∧ (∀ p ∈ free, p.1 ≤ pre.length ∧ p.2 < s) ∧ RowOk s n r0 ∧ ∀ r ∈ rows, RowOk s n r)
    (List.range (n - 1)) [some (.ref 0), some (.int (s : Nat)), some (.int (n : Nat)), some (.int m), some (.ref 1), some (.ref 3), none, none, none, none] (HP o1 ((List.range s).map fun j => (0, j)) (List.replicate s 0) []) ?_
    ⟨o1, _, _, [], none, none, none, none, rfl, rfl, P1, rfl, by simp, by simp, fun p hp => by
      obtain ⟨j, hj, rfl⟩ := List.mem_map.mp hp
      rw [List.mem_range] at hj
      exact ⟨Nat.le_refl _, hj⟩, z, by simp⟩
  · obtain ⟨τ', h', e2, u, free, r0, rows, t6, t7, t8, t9, rfl, rfl, P2, l1, l2, l3, ff, q0, q1⟩ := lo
    rw [List.length_range] at P2 l1 l3 ff
    have f31 : s * (n - 1) ≤ 6 * 31 := Nat.mul_le_mul s6 (by omega)
    have lo2 := forC_all (g := kTup 2 (kCons (kN 8) (kCons (kN 9) kNil))) (b := b_law_goes_L3 F_law_take) (ck := fun h => h[1]? = some (.lst (free.map slotD))) slotD
      (fun pre τ h => ∃ (u : O) (r0 : List Int) (rows : List (List Int)) (t8 t9 : Option D), τ = [some (.ref 0), some (.int (s : Nat)), some (.int (n : Nat)), some (.int m), some (.ref 1), some (.ref 3), t6, t7, t8, t9] ∧ h = HP u free r0 rows ∧ Hand u (N + 1 + 2 * (n - 1) + pre.length) ∧ rows.length = n - 1 ∧ RowOk s n r0 ∧ ∀ r ∈ rows, RowOk s n r)
      (fun pre τ h ⟨u, r0, rows, _, _, _, e, _⟩ => by rw [e]; rfl) free [] [some (.ref 0), some (.int (s : Nat)), some (.int (n : Nat)), some (.int m), some (.ref 1), some (.ref 3), t6, t7, t8, t9] (HP u free r0 rows) ?_ ⟨u, r0, rows, t8, t9, rfl, rfl, P2, l1, q0, q1⟩
    · obtain ⟨τ', h', e3, u', r0', rows', t8', t9', rfl, rfl, P3, l1', q0', q1'⟩ := lo2
      rw [List.nil_append] at P3
      refine ⟨r0' :: rows', u', by rw [List.length_cons]; omega, fun r hr => by
        rcases List.mem_cons.mp hr with rfl | h
        · exact q0'
        · exact q1' r h, ?_, P3.up (by omega)⟩
      refine Dr.of rfl (by intro x hx; simp only [List.mem_cons, List.not_mem_nil, or_false] at hx; rcases hx with rfl | rfl <;> exact clo_int _) P.clo (r := .ok (.ref 3) (HP u' free r0' rows')) ?_ (frzR_of frz_rows (by intro x hx; rw [show List.take 1 (HP u' free r0' rows') = [u'] from rfl, List.mem_singleton] at hx; subst hx; exact cloO_up (by omega) P3.clo)) (clo_rol (clos_map fun x _ => clo_rol (clos_map fun y _ => clo_int y))) P3.clo
      unfold F_law_goes
      rw [body_toR]
      show toR (b_law_goes F_law_take [some (.ref 0), some (.int (s : Nat)), some (.int (n : Nat)), none, none, none, none, none, none, none] [o]) = _
      unfold b_law_goes
      have c1 : sLoc false 2 F_law_take [.ref 0, .int 2] [o] = .ok (.int m) [o1] := e1 0 _ rfl
      rw [setof (a2of (v_at rfl) (c_ok _ _ _) c1)]
      simp only [List.set_cons_zero, List.set_cons_succ]
      have z6 := lineOk (n := s) (by omega)
      have c2 : ∀ τ : Sd, τ[1]? = some (some (.int (s : Nat))) → sComp (sRg gRng1 (sCons (sV 1) sNil)) t1 (b_law_goes_C0 F_law_take) [] τ [o1] = .ok (.ref 1) ([o1] ++ [.lst ((List.range s).map fun j => slotD (0, j))]) := fun τ ht => by
        refine comp_pure (fun i : Nat => D.int (i : Nat)) (fun j : Nat => slotD (0, j)) (List.range s) (it_rng1 (v_at ht) z6) (by rw [List.length_range]; exact z6) fun x _ => ?_
        rw [bindT_1, frs_nil]
        unfold b_law_goes_C0
        simp only [sA, sCons, sNil, sV, sC, List.getElem?_cons_zero, bind_ok, MI.gTup, List.length_cons, List.length_nil, Nat.reduceAdd, if_pos (show (2:Nat) ≤ LINE by decide)]
        rfl
      rw [setof (c2 _ rfl)]
      simp only [List.set_cons_zero, List.set_cons_succ, List.cons_append, List.nil_append]
      have cl : ∀ x ∈ [o1, O.lst ((List.range s).map fun j => slotD (0, j))], cloO 2 x := by
        intro x hx
        simp only [List.mem_cons, List.not_mem_nil, or_false] at hx
        rcases hx with rfl | rfl
        · exact cloO_up (by omega) P1.clo
        · exact clos_map fun x _ => clo_tup (clos_cons (clo_int _) (clos_cons (clo_int _) clos_nil))
      have c3 : ∀ τ : Sd, τ[1]? = some (some (.int (s : Nat))) → sA gLst (sCons (s2 gMulR (sZ (sA gLst (sCons (sC (.int 0)) sNil))) (sV 1)) sNil) τ [o1, O.lst ((List.range s).map fun j => slotD (0, j))] = .ok (.ref 3) (HP o1 ((List.range s).map fun j => (0, j)) (List.replicate s 0) []) := fun τ ht => by
        refine a1of (s2of (z_lst (xs := [.int 0]) rfl (clos_cons (clo_int _) clos_nil) cl) (v_at ht) (mul_zero z6)) ?_
        unfold MI.gLst HP
        simp only [List.map_map, List.length_nil, List.map_nil]
        rfl
      rw [setof (c3 _ rfl)]
      simp only [List.set_cons_zero, List.set_cons_succ]
      have i2 : ∀ (τ : Sd) (h : Hd), τ[2]? = some (some (.int (n : Nat))) → sRg gRng2 (sCons (sC (.int 1)) (sCons (sV 2) sNil)) τ h = .ok ⟨(List.range (n - 1)).map fun i : Nat => D.int ((1 + i : Nat)), fun _ => True⟩ h := fun τ h ht => it_rng2 (a := 1) (c_ok _ _ _) (v_at ht) (lineOk (by omega)) (lineOk (by omega))
      rw [forof (i2 _ _ rfl), e2, thn_nx]
      have i3 : ∀ τ : Sd, τ[4]? = some (some (.ref 1)) → sIt (sV 4) τ (HP u free r0 rows) = .ok ⟨free.map slotD, fun h => h[1]? = some (.lst (free.map slotD))⟩ (HP u free r0 rows) := fun τ ht => by
        unfold sIt
        rw [v_at ht, bind_ok]
        rfl
      rw [forof (i3 _ rfl), e3, thn_nx]
      rfl
    · rintro pre p post τ h all ⟨u, r0, rows, t8, t9, rfl, rfl, P3, l1', q0', q1'⟩
      rw [List.nil_append] at all
      have hp : p ∈ free := by rw [all]; simp
      have hl : pre.length < free.length := by rw [all]; simp
      obtain ⟨fa, fb⟩ := ff p hp
      obtain ⟨u', r0', rows', e4, P4, l4, q4, q5⟩ := goes_fill (t3 := some (.int m)) (t6 := t6) (t7 := t7) (free := free) P3 (by omega) n1 n32 (by omega : p.1 ≤ rows.length) fb q0' q1'
      exact ⟨_, _, rfl, _, _, e4, u', r0', rows', _, _, rfl, rfl, by simpa [Nat.add_assoc] using P4, by omega, q4, q5⟩
  · rintro pre i post τ h all ⟨u, free, r0, rows, t6, t7, t8, t9, rfl, rfl, P2, l1, l2, l3, ff, q0, q1⟩
    obtain ⟨hi, hk⟩ := range_mid all
    have f31 : s * pre.length ≤ 6 * 31 := Nat.mul_le_mul s6 (by omega)
    obtain ⟨u', free', r0', rows', z7, z8, z9, e3, P3, l4, l5, l6, f', q3, q4⟩ := goes_turn (m := m) (t6 := t6) (t7 := t7) (t8 := t8) (t9 := t9) (i := i) P2 (by omega) s1 s6 n32 (by omega) (by omega : rows.length = i) l2 (by omega) (fun p hp => by have := ff p hp; omega) q0 q1
    refine ⟨_, _, rfl, _, _, e3, u', free', r0', rows', _, z7, z8, z9, rfl, rfl, P3.up (by rw [List.length_append, List.length_singleton]; omega), by rw [List.length_append, List.length_singleton]; omega, l5, ?_, fun p hp => by rw [List.length_append, List.length_singleton]; have := f' p hp; omega, q3, q4⟩
    rw [List.length_append, List.length_singleton, Nat.mul_add]
    omega
end HND
set_option Elab.async false
set_option linter.all false
set_option maxRecDepth 100000
set_option maxHeartbeats 4000000
namespace HND
open PySem PySem.Spec L2 MI AT
noncomputable def F_law_kinds : SF := bodyR (b_law_kinds F_law_take) 6
abbrev KOk (k : Int) : Prop := -1 ≤ k ∧ k ≤ 5
theorem kinds_turn {o : O} {N : Nat} {n m room : Int} {ks : List Int} {t5 : Option D} (P : Hand o N) (hN : N ≤ 999999000) (l : ks.length ≤ 100) :
    ∃ (u : O) (k : Int), b_law_kinds_L0 F_law_take [some (.ref 0), some (.int n), some (.int m), some (.ref 1), some (.int room), t5] [o, .lst (ks.map D.int)] = .nx [some (.ref 0), some (.int n), some (.int m), some (.ref 1), some (.int room), some (.int k)] [u, .lst ((ks ++ [k]).map D.int)] ∧ Hand u (N + 2) ∧ KOk k := by
  obtain ⟨x, o1, e1, x0, x1, P1⟩ := take_ok (m := 7) P (by omega) (by omega) (by omega)
  obtain ⟨y, o2, e2, y0, y1, P2⟩ := take_ok (m := 3) P1 (by omega) (by omega) (by omega)
  have c1 : sLoc false 2 F_law_take [.ref 0, .int 7] [o, .lst (ks.map D.int)] = .ok (.int x) [o1, .lst (ks.map D.int)] := e1 0 _ rfl
  have c2 : sLoc false 2 F_law_take [.ref 0, .int 3] [o1, .lst (ks.map D.int)] = .ok (.int y) [o2, .lst (ks.map D.int)] := e2 0 _ rfl
  have fin : ∀ (u : O) (k : Int), sDrop (sML gApp (sV 3) (sCons (sV 5) sNil)) [some (.ref 0), some (.int n), some (.int m), some (.ref 1), some (.int room), some (.int k)] [u, .lst (ks.map D.int)] = .nx [some (.ref 0), some (.int n), some (.int m), some (.ref 1), some (.int room), some (.int k)] [u, .lst ((ks ++ [k]).map D.int)] := fun u k => by
    rw [List.map_append]
    exact dropML (v_at rfl) rfl (arg1 (v_at rfl)) (app_at (xs := ks.map D.int) rfl (by rw [List.length_map]; exact lineLt (by omega)))
  unfold b_law_kinds_L0
  by_cases h1 : m = 1
  · subst h1
    refine ⟨o1, (x - 1) / 5, ?_, P1.up (by omega), by omega⟩
    refine Eq.trans (setof (s2of (a2of (v_at rfl) (c_ok _ _ _) c1) (c_ok _ _ _) (sub_ii _ _))) ?_
    refine Eq.trans (seqof (Eq.trans (ifT (tof (s2of (v_at rfl) (c_ok _ _ _) (eqi_t rfl)))) (setL (s2of (v_at rfl) (c_ok _ _ _) (div_ii (by decide)))))) ?_
    refine Eq.trans (ifN (andF (tof (s2of (v_at rfl) (c_ok _ _ _) (eqi_f (by decide)))))) ?_
    exact fin _ _
  · by_cases h2 : m = 2
    · subst h2
      by_cases hy : 0 < y
      · refine ⟨o2, -1, ?_, P2, by decide⟩
        refine Eq.trans (setof (s2of (a2of (v_at rfl) (c_ok _ _ _) c1) (c_ok _ _ _) (sub_ii _ _))) ?_
        refine Eq.trans (ifN (tof (s2of (v_at rfl) (c_ok _ _ _) (eqi_f h1)))) ?_
        refine Eq.trans (seqof (Eq.trans (ifT (andT (tof (s2of (v_at rfl) (c_ok _ _ _) (eqi_t rfl))) (tof (s2of (a2of (v_at rfl) (c_ok _ _ _) c2) (c_ok _ _ _) (gt_t hy))))) (setL (s1of (c_ok _ _ _) (neg_i _))))) ?_
        exact fin _ _
      · refine ⟨o2, x - 1, ?_, P2, by omega⟩
        refine Eq.trans (setof (s2of (a2of (v_at rfl) (c_ok _ _ _) c1) (c_ok _ _ _) (sub_ii _ _))) ?_
        refine Eq.trans (ifN (tof (s2of (v_at rfl) (c_ok _ _ _) (eqi_f h1)))) ?_
        refine Eq.trans (ifN (andT (tof (s2of (v_at rfl) (c_ok _ _ _) (eqi_t rfl))) (tof (s2of (a2of (v_at rfl) (c_ok _ _ _) c2) (c_ok _ _ _) (gt_f hy))))) ?_
        exact fin _ _
    · refine ⟨o1, x - 1, ?_, P1.up (by omega), by omega⟩
      refine Eq.trans (setof (s2of (a2of (v_at rfl) (c_ok _ _ _) c1) (c_ok _ _ _) (sub_ii _ _))) ?_
      refine Eq.trans (ifN (tof (s2of (v_at rfl) (c_ok _ _ _) (eqi_f h1)))) ?_
      refine Eq.trans (ifN (andF (tof (s2of (v_at rfl) (c_ok _ _ _) (eqi_f h2))))) ?_
      exact fin _ _
theorem kinds_ok {o : O} {N n : Nat} (P : Hand o N) (hN : N ≤ 999990000) (n1 : 1 ≤ n) (n32 : n ≤ 32) :
    ∃ (ks : List Int) (o' : O), ks.length = n ∧ ks[0]? = some (-1) ∧ (∀ k ∈ ks, KOk k) ∧ Dr F_law_kinds 2 [.int (n : Nat)] o (.rol (ks.map D.int)) o' ∧ Hand o' (N + 1000) := by
  obtain ⟨m, o1, e1, m0, m1, P1⟩ := take_ok (m := 3) P (by omega) (by omega) (by omega)
  have lo := forT_all (g := kN 4) (b := b_law_kinds_L0 F_law_take) (fun i : Nat => D.int ((1 + i : Nat)))
    (fun pre τ h => ∃ (u : O) (ks : List Int) (t4 t5 : Option D), τ = [some (.ref 0), some (.int (n : Nat)), some (.int m), some (.ref 1), t4, t5] ∧ h = [u, .lst (ks.map D.int)] ∧ Hand u (N + 1 + 2 * pre.length) ∧ ks.length = 1 + pre.length ∧ ks[0]? = some (-1) ∧ ∀ k ∈ ks, KOk k)
    (List.range (n - 1)) [some (.ref 0), some (.int (n : Nat)), some (.int m), some (.ref 1), none, none] [o1, .lst ([-1].map D.int)] ?_
    ⟨o1, [-1], none, none, rfl, rfl, P1, rfl, rfl, by intro k hk; rw [List.mem_singleton] at hk; subst hk; decide⟩
  · obtain ⟨τ', h', e2, u, ks, t4, t5, rfl, rfl, P2, l1, k0, kk⟩ := lo
    rw [List.length_range] at P2 l1
    refine ⟨ks, u, by omega, k0, kk, ?_, P2.up (by omega)⟩
    refine Dr.of rfl (by intro x hx; simp only [List.mem_cons, List.not_mem_nil, or_false] at hx; rw [hx]; exact clo_int _) P.clo (r := .ok (.ref 1) [u, .lst (ks.map D.int)]) ?_ (frzR_lst (Nat.le_refl _) rfl (clos_map fun x _ => clo_int x) (by intro x hx; rw [show List.take 1 [u, O.lst (ks.map D.int)] = [u] from rfl, List.mem_singleton] at hx; subst hx; exact cloO_up (by omega) P2.clo)) (clo_rol (clos_map fun y _ => clo_int y)) P2.clo
    unfold F_law_kinds
    rw [body_toR]
    show toR (b_law_kinds F_law_take [some (.ref 0), some (.int (n : Nat)), none, none, none, none] [o]) = _
    unfold b_law_kinds
    have c1 : sLoc false 2 F_law_take [.ref 0, .int 3] [o] = .ok (.int m) [o1] := e1 0 _ rfl
    rw [setof (a2of (v_at rfl) (c_ok _ _ _) c1), setof (d := .ref 1) (h1 := [o1, .lst ([-1].map D.int)]) rfl]
    simp only [List.set_cons_zero, List.set_cons_succ]
    have i2 : ∀ (τ : Sd) (h : Hd), τ[1]? = some (some (.int (n : Nat))) → sRg gRng2 (sCons (sC (.int 1)) (sCons (sV 1) sNil)) τ h = .ok ⟨(List.range (n - 1)).map fun i : Nat => D.int ((1 + i : Nat)), fun _ => True⟩ h := fun τ h ht => it_rng2 (a := 1) (c_ok _ _ _) (v_at ht) (lineOk (by omega)) (lineOk (by omega))
    rw [forof (i2 _ _ rfl), e2, thn_nx]
    rfl
  · rintro pre i post τ h all ⟨u, ks, t4, t5, rfl, rfl, P2, l1, k0, kk⟩
    obtain ⟨hi, hk⟩ := range_mid all
    obtain ⟨u', k, e3, P3, hk3⟩ := kinds_turn (n := n) (m := m) (room := ((1 + i : Nat) : Int)) (t5 := t5) P2 (by omega) (by omega : ks.length ≤ 100)
    refine ⟨_, _, rfl, _, _, e3, u', ks ++ [k], _, _, rfl, rfl, P3.up (by rw [List.length_append, List.length_singleton]; omega), by rw [List.length_append, List.length_append, List.length_singleton, List.length_singleton]; omega, ?_, fun q hq => ?_⟩
    · rw [List.getElem?_append_left (by omega)]; exact k0
    · rcases List.mem_append.mp hq with h | h
      · exact kk q h
      · rw [List.mem_singleton] at h; subst h; exact hk3
end HND
set_option Elab.async false
set_option linter.all false
set_option maxRecDepth 100000
set_option maxHeartbeats 4000000
namespace HND
open PySem PySem.Spec L2 MI AT
abbrev natD (i : Nat) : D := .int (i : Nat)
noncomputable def F_law_shuffled : SF := bodyR (b_law_shuffled F_law_take) 9
theorem clos_nats {k : Nat} (l : List Nat) : clos k (l.map natD) := clos_map fun x _ => clo_int _
theorem places_ok {o : O} {N n : Nat} {d1 d2 : D} {t5 t6 t7 t8 : Option D} (P : Hand o N) (hN : N ≤ 999990000) (n1 : 1 ≤ n) (n32 : n ≤ 32) :
    ∃ (pl : List Nat) (u : O), sWh (b_law_shuffled_W0 F_law_take) (b_law_shuffled_L1 F_law_take) 100000 [some (.ref 0), some d1, some d2, some (.ref 1), some (.ref 2), t5, t6, t7, t8] [o, .lst (((List.range (n - 1)).map (1 + ·)).map natD), .lst ([0].map natD)] = .nx [some (.ref 0), some d1, some d2, some (.ref 1), some (.ref 2), t5, t6, t7, t8] [u, .lst [], .lst (pl.map natD)]
      ∧ List.Perm pl (List.range n) ∧ pl[0]? = some 0 ∧ Hand u (N + 32) := by
  have w := wh_by (c := b_law_shuffled_W0 F_law_take) (f := b_law_shuffled_L1 F_law_take)
    (fun m τ h => ∃ (u : O) (pl rest : List Nat), τ = [some (.ref 0), some d1, some d2, some (.ref 1), some (.ref 2), t5, t6, t7, t8] ∧ h = [u, .lst (rest.map natD), .lst (pl.map natD)] ∧ m = rest.length ∧ List.Perm (pl ++ rest) (List.range n) ∧ pl[0]? = some 0 ∧ Hand u (N + pl.length))
    (fun τ h => ∃ (u : O) (pl : List Nat), τ = [some (.ref 0), some d1, some d2, some (.ref 1), some (.ref 2), t5, t6, t7, t8] ∧ h = [u, .lst [], .lst (pl.map natD)] ∧ List.Perm pl (List.range n) ∧ pl[0]? = some 0 ∧ Hand u (N + 32))
    (fun _ _ => False) ?_ (n - 1) 100000 [some (.ref 0), some d1, some d2, some (.ref 1), some (.ref 2), t5, t6, t7, t8] [o, .lst (((List.range (n - 1)).map (1 + ·)).map natD), .lst ([0].map natD)] (by omega)
    ⟨o, [0], (List.range (n - 1)).map (1 + ·), rfl, rfl, by simp, ?_, rfl, P.up (by omega)⟩
  · rcases w with ⟨τ', h', e, u, pl, rfl, rfl, a, b, c⟩ | ⟨_, _, _, z⟩
    · exact ⟨pl, u, e, a, b, c⟩
    · exact z.elim
  · rintro m τ h ⟨u, pl, rest, rfl, rfl, rfl, pm, p0, Pu⟩
    have ln : (pl ++ rest).length = n := by rw [pm.length_eq, List.length_range]
    rw [List.length_append] at ln
    cases rest with
    | nil =>
      refine .inl ⟨_, ?_, u, pl, rfl, rfl, by simpa using pm, p0, Pu.up (by omega)⟩
      exact tof (s2of (a1of (v_at rfl) (len_lst rfl)) (c_ok _ _ _) (gt_f (by simp)))
    | cons r0 rs =>
      refine .inr ⟨_, tof (s2of (a1of (v_at rfl) (len_lst rfl)) (c_ok _ _ _) (gt_t (by simp))), .inl ?_⟩
      generalize hr : r0 :: rs = rest at *
      have rl : 0 < rest.length := by rw [← hr]; simp
      obtain ⟨x, u', e1, x0, x1, P1⟩ := take_ok (m := (rest.length : Nat)) Pu (by omega) (by omega) (by omega)
      obtain ⟨j, rfl⟩ := Int.eq_ofNat_of_zero_le x0
      have hj : j < rest.length := by omega
      have gx : rest[j]? = some rest[j] := List.getElem?_eq_getElem hj
      have pp := perm_pick pl rest j rest[j] gx
      rw [← List.eraseIdx_eq_take_drop_succ] at pp
      have c1 : sLoc false 2 F_law_take [.ref 0, .int ((rest.map natD).length : Nat)] [u, .lst (rest.map natD), .lst (pl.map natD)] = .ok (.int (j : Nat)) [u', .lst (rest.map natD), .lst (pl.map natD)] := by
        rw [List.length_map]
        exact e1 0 _ rfl
      refine ⟨_, [u', .lst ((rest.eraseIdx j).map natD), .lst ((pl ++ [rest[j]]).map natD)], (rest.eraseIdx j).length, ?_, ?_, u', pl ++ [rest[j]], rest.eraseIdx j, rfl, rfl, rfl, pp.symm.trans pm, ?_, ?_⟩
      · unfold b_law_shuffled_L1
        refine dropML (v := .non) (v_at rfl) rfl (arg1 (valML (v_at rfl) rfl (arg1 (a2of (v_at rfl) (a1of (v_at rfl) (len_lst rfl)) c1)) (pop_lst (xs := rest.map natD) rfl (y := natD rest[j]) (by rw [List.getElem?_map, gx]; rfl) (by rw [List.length_map]; exact lineOk (by omega))))) ?_
        rw [← map_erase, List.map_append]
        exact app_at (xs := pl.map natD) rfl (by rw [List.length_map]; exact lineLt (by omega))
      · rw [List.length_eraseIdx, if_pos hj]; omega
      · have : 0 < pl.length := by
          cases pl with
          | nil => simp at p0
          | cons a b => simp
        rw [List.getElem?_append_left this]; exact p0
      · rw [List.length_append, List.length_singleton]; exact P1
  · obtain ⟨k, rfl⟩ : ∃ k, n = k + 1 := ⟨n - 1, by omega⟩
    rw [List.range_succ_eq_map, show k + 1 - 1 = k by omega]
    refine List.Perm.of_eq ?_
    show 0 :: _ = _
    congr 1
    exact List.map_congr_left fun i _ => by simp [Nat.succ_eq_add_one, Nat.add_comm]
end HND
set_option Elab.async false
set_option linter.all false
set_option maxRecDepth 100000
set_option maxHeartbeats 4000000
namespace HND
open PySem PySem.Spec L2 MI AT
theorem zip_mid {α : Type} {xs : List α} {pre post : List (Nat × α)} {x : Nat × α} (h : (List.range xs.length).zip xs = pre ++ x :: post) : x.1 = pre.length ∧ xs[pre.length]? = some x.2 := by
  have h1 := congrArg (fun l => l[pre.length]?) h
  have h2 := congrArg List.length h
  simp at h1 h2
  have hl : pre.length < xs.length := by omega
  rw [List.getElem?_eq_getElem (by simpa using hl)] at h1
  simp at h1
  rw [List.getElem?_eq_getElem hl, ← h1]
  exact ⟨rfl, rfl⟩
theorem all_map {α : Type} (f : α → D) (P : α → Prop) : ∀ (l : List D), (∀ x ∈ l, ∃ r, P r ∧ x = f r) → ∃ G : List α, l = G.map f ∧ ∀ r ∈ G, P r
  | [], _ => ⟨[], rfl, by simp⟩
  | x :: l, h => by
    obtain ⟨r, pr, rfl⟩ := h _ List.mem_cons_self
    obtain ⟨G, rfl, pG⟩ := all_map f P l fun y hy => h y (List.mem_cons_of_mem _ hy)
    exact ⟨r :: G, rfl, fun q hq => by
      rcases List.mem_cons.mp hq with rfl | h
      · exact pr
      · exact pG q h⟩
abbrev rowT (r : List Nat) : D := .tup (r.map natD)
abbrev rowR (r : List Int) : D := .rol (r.map D.int)
abbrev RowN (s n : Nat) (r : List Nat) : Prop := r.length = s ∧ ∀ x ∈ r, x < n
theorem shuf_turn {u : O} {N s n i q : Nat} {d1 : D} {pl : List Nat} {ks ts : List Int} {rs : List D} {r : List Int} {k : Int} (Pu : Hand u N) (n32 : n ≤ 32) (s6 : s ≤ 6) (pm : List.Perm pl (List.range n)) (hq : pl[i]? = some q) (hk : ks[i]? = some k) (hr : RowOk s n r) (lr : rs.length = n) (lt : ts.length = n) (cr : ∀ x ∈ rs, clo 0 x) :
    ∃ r' : List Nat, RowN s n r' ∧ b_law_shuffled_L5 F_law_take [some (.ref 0), some d1, some (.rol (ks.map D.int)), some (.ref 1), some (.ref 2), some (.ref 3), some (.ref 4), some (natD i), some (rowR r)] [u, .lst [], .lst (pl.map natD), .lst rs, .lst (ts.map D.int)] = .nx [some (.ref 0), some d1, some (.rol (ks.map D.int)), some (.ref 1), some (.ref 2), some (.ref 3), some (.ref 4), some (natD i), some (rowR r)] [u, .lst [], .lst (pl.map natD), .lst (rs.set q (rowT r')), .lst ((ts.set q k).map D.int)] := by
  have pln : pl.length = n := by rw [pm.length_eq, List.length_range]
  have at' : ∀ x : Int, x ∈ r → ∃ (j : Nat), x = j ∧ ∃ y : Nat, y < n ∧ pl[j]? = some y := fun x hx => by
    obtain ⟨a, b⟩ := hr.2 x hx
    obtain ⟨j, rfl⟩ := Int.eq_ofNat_of_zero_le a
    have hj : j < pl.length := by omega
    exact ⟨j, rfl, pl[j], by have := pm.mem_iff.mp (List.getElem_mem hj); simpa using this, List.getElem?_eq_getElem hj⟩
  have qn : q < n := by
    have := List.mem_of_getElem? hq
    simpa using pm.mem_iff.mp this
  refine ⟨r.map fun x => (pl[x.toNat]?).getD 0, ⟨by simp [hr.1], fun y hy => ?_⟩, ?_⟩
  · obtain ⟨x, hx, rfl⟩ := List.mem_map.mp hy
    obtain ⟨j, rfl, y, yn, e⟩ := at' x hx
    simpa [e] using yn
  · have cl : ∀ o ∈ [u, O.lst [], .lst (pl.map natD), .lst rs, .lst (ts.map D.int)], cloO 5 o := by
      intro o ho
      simp only [List.mem_cons, List.not_mem_nil, or_false] at ho
      rcases ho with rfl | rfl | rfl | rfl | rfl
      · exact cloO_up (by omega) Pu.clo
      · exact (clos_nil : clos 5 [])
      · exact clos_nats _
      · exact clos_iff.mpr fun x hx => clo_up (by omega) (cr x hx)
      · exact clos_map fun x _ => clo_int x
    have cz : sZ (sComp (sIt (sV 8)) t1 (b_law_shuffled_C4 F_law_take) [4]) [some (.ref 0), some d1, some (.rol (ks.map D.int)), some (.ref 1), some (.ref 2), some (.ref 3), some (.ref 4), some (natD i), some (rowR r)] [u, .lst [], .lst (pl.map natD), .lst rs, .lst (ts.map D.int)] = .ok (.rol (r.map fun x => natD ((pl[x.toNat]?).getD 0))) [u, .lst [], .lst (pl.map natD), .lst rs, .lst (ts.map D.int)] := by
      refine z_lst (comp_pure D.int (fun x => natD ((pl[x.toNat]?).getD 0)) r (itof (v_at rfl) rfl) (lineOk ?_) fun x hx => ?_) (clos_map fun x _ => clo_int _) cl
      · have := hr.1
        omega
      · obtain ⟨j, rfl, y, yn, e⟩ := at' x hx
        rw [bindT_1]
        refine (s2of (v_at rfl) (v_at rfl) (ix_lst (xs := pl.map natD) rfl (y := natD y) (by rw [List.getElem?_map, e]; rfl))).trans ?_
        simp [e]
    unfold b_law_shuffled_L5
    have ip : ∀ (h : Hd), h[2]? = some (.lst (pl.map natD)) → gIx (.ref 2) (natD i) h = .ok (natD q) h := fun h hh => ix_lst hh (by rw [List.getElem?_map, hq]; rfl)
    refine Eq.trans (seqof (putof (a1of cz rfl) (v_at rfl) (s2of (v_at rfl) (v_at rfl) (ip _ rfl)) (put_l (xs := rs) rfl (by omega)))) ?_
    rw [List.map_set]
    refine Eq.trans (putof (s2of (v_at rfl) (v_at rfl) (ix_r (by rw [List.getElem?_map, hk]; rfl))) (v_at rfl) (s2of (v_at rfl) (v_at rfl) (ip _ rfl)) (put_l (xs := ts.map D.int) rfl (by rw [List.length_map]; omega))) ?_
    simp only [List.set_cons_succ, List.set_cons_zero, rowT, List.map_map]
    rfl
theorem shuffled_ok {o : O} {N s n : Nat} {rows : List (List Int)} {ks : List Int} (P : Hand o N) (hN : N ≤ 999990000) (n1 : 1 ≤ n) (n32 : n ≤ 32) (s6 : s ≤ 6) (lr : rows.length = n) (qr : ∀ r ∈ rows, RowOk s n r) (lk : ks.length = n) (k0 : ks[0]? = some (-1)) (kk : ∀ k ∈ ks, KOk k) :
    ∃ (G : List (List Nat)) (ts : List Int) (o' : O), G.length = n ∧ (∀ r ∈ G, RowN s n r) ∧ ts.length = n ∧ ts[0]? = some (-1) ∧ (∀ k ∈ ts, KOk k) ∧ Dr F_law_shuffled 3 [.rol (rows.map rowR), .rol (ks.map D.int)] o (.tup [.tup (G.map rowT), .tup (ts.map D.int)]) o' ∧ Hand o' (N + 32) := by
  obtain ⟨pl, u, e1, pm, p0, Pu⟩ := places_ok (d1 := .rol (rows.map rowR)) (d2 := .rol (ks.map D.int)) (t5 := none) (t6 := none) (t7 := none) (t8 := none) P hN n1 n32
  have pln : pl.length = n := by rw [pm.length_eq, List.length_range]
  have pnd : pl.Nodup := pm.nodup_iff.mpr List.nodup_range
  have lo := forT_all (g := kTup 2 (kCons (kN 7) (kCons (kN 8) kNil))) (b := b_law_shuffled_L5 F_law_take) (fun p : Nat × D => D.tup [.int (p.1 : Nat), p.2])
    (fun pre τ h => ∃ (rs : List D) (ts : List Int) (t7 t8 : Option D), τ = [some (.ref 0), some (.rol (rows.map rowR)), some (.rol (ks.map D.int)), some (.ref 1), some (.ref 2), some (.ref 3), some (.ref 4), t7, t8] ∧ h = [u, .lst [], .lst (pl.map natD), .lst rs, .lst (ts.map D.int)] ∧ rs.length = n ∧ ts.length = n ∧ (∀ x ∈ rs, clo 0 x) ∧ (∀ j q, j < pre.length → pl[j]? = some q → ∃ r', RowN s n r' ∧ rs[q]? = some (rowT r')) ∧ (∀ k ∈ ts, KOk k) ∧ (0 < pre.length → ts[0]? = some (-1)))
    ((List.range (rows.map rowR).length).zip (rows.map rowR)) [some (.ref 0), some (.rol (rows.map rowR)), some (.rol (ks.map D.int)), some (.ref 1), some (.ref 2), some (.ref 3), some (.ref 4), none, none] [u, .lst [], .lst (pl.map natD), .lst (rows.map fun _ => .tup []), .lst ((rows.map fun _ => (-1 : Int)).map D.int)] ?_
    ⟨_, _, none, none, rfl, rfl, by simpa using lr, by simpa using lr, fun x hx => by
      obtain ⟨_, _, rfl⟩ := List.mem_map.mp hx
      exact clo_tup clos_nil, fun j q hj => by simp at hj, fun k hk => by
      obtain ⟨_, _, rfl⟩ := List.mem_map.mp hk
      decide, fun z => by simp at z⟩
  · obtain ⟨τ', h', e2, rs, ts, t7, t8, rfl, rfl, l1, l2, c1, full, tk, t0⟩ := lo
    have zl : ((List.range (rows.map rowR).length).zip (rows.map rowR)).length = n := by simp [lr]
    rw [zl] at full t0
    obtain ⟨G, rfl, hG⟩ := all_map rowT (RowN s n) rs fun x hx => by
      obtain ⟨q, hq, rfl⟩ := List.mem_iff_getElem.mp hx
      have : q ∈ pl := pm.mem_iff.mpr (by simp; omega)
      obtain ⟨j, hj, ej⟩ := List.mem_iff_getElem.mp this
      obtain ⟨r', a, b⟩ := full j q (by omega) (by rw [List.getElem?_eq_getElem hj, ej])
      rw [List.getElem?_eq_getElem hq] at b
      exact ⟨r', a, Option.some.inj b⟩
    refine ⟨G, ts, u, by simpa using l1, hG, l2, t0 (by omega), tk, ?_, Pu⟩
    have cd : clo 0 (.tup [.tup (G.map rowT), .tup (ts.map D.int)]) := clo_tup (clos_cons (clo_tup (clos_iff.mpr c1)) (clos_cons (clo_tup (clos_map fun x _ => clo_int x)) clos_nil))
    refine Dr.of rfl (by
      intro x hx; simp only [List.mem_cons, List.not_mem_nil, or_false] at hx
      rcases hx with rfl | rfl
      · exact clo_rol (clos_map fun x _ => clo_rol (clos_map fun y _ => clo_int y))
      · exact clo_rol (clos_map fun y _ => clo_int y)) P.clo (r := .ok (.tup [.tup (G.map rowT), .tup (ts.map D.int)]) [u, .lst [], .lst (pl.map natD), .lst (G.map rowT), .lst (ts.map D.int)]) ?_ (frzR_clo (clo_up (by omega) cd) (by intro x hx; rw [show List.take 1 [u, O.lst [], .lst (pl.map natD), .lst (G.map rowT), .lst (ts.map D.int)] = [u] from rfl, List.mem_singleton] at hx; subst hx; exact cloO_up (by omega) Pu.clo)) cd Pu.clo
    unfold F_law_shuffled
    rw [body_toR]
    show toR (b_law_shuffled F_law_take [some (.ref 0), some (.rol (rows.map rowR)), some (.rol (ks.map D.int)), none, none, none, none, none, none] [o]) = _
    unfold b_law_shuffled
    have r1 : gLRng2 [.int 1, .int ((rows.map rowR).length : Nat)] [o] = .ok (.ref 1) [o, .lst (((List.range (n - 1)).map (1 + ·)).map natD)] := by
      rw [List.length_map, lr]
      unfold gLRng2
      dsimp only
      rw [if_pos ⟨⟨b62_k (by omega) (by omega), b62_k (by omega) (by omega)⟩, lineOk (by omega)⟩, show ((n : Int) - 1).toNat = n - 1 by omega]
      simp only [rng, List.map_map]
      rfl
    refine Eq.trans (congrArg toR (setof (a2of (c_ok _ _ _) (a1of (v_at rfl) len_rol) r1))) ?_
    refine Eq.trans (congrArg toR (setof (d := .ref 2) (h1 := [o, .lst (((List.range (n - 1)).map (1 + ·)).map natD), .lst ([0].map natD)]) rfl)) ?_
    refine Eq.trans (congrArg toR (seqof e1)) ?_
    have zr : (rows.length : Nat) ≤ LINE := lineOk (by omega)
    refine Eq.trans (congrArg toR (setof (comp_pure rowR (fun _ => .tup []) rows (itof (v_at rfl) rfl) zr fun x _ => rfl))) ?_
    refine Eq.trans (congrArg toR (setof (comp_pure rowR (fun _ => .int (-1)) rows (itof (v_at rfl) rfl) zr fun x _ => rfl))) ?_
    have en : ∀ (τ : Sd) (h : Hd), τ[1]? = some (some (.rol (rows.map rowR))) → sEnum (sV 1) τ h = .ok ⟨((List.range (rows.map rowR).length).zip (rows.map rowR)).map fun p => .tup [.int (p.1 : Nat), p.2], fun _ => True⟩ h := fun τ h ht => by
      unfold sEnum
      rw [v_at ht, bind_ok]
      rfl
    refine Eq.trans (congrArg toR (forof (en _ _ rfl))) ?_
    rw [show ((rows.map fun _ => (-1 : Int)).map D.int) = rows.map fun _ => .int (-1) from by rw [List.map_map]; rfl] at e2
    refine Eq.trans (congrArg (fun z => toR (thn z _)) e2) ?_
    rw [thn_nx]
    refine Eq.trans (congrArg toR (retof (a2of (a1of (v_at rfl) (tup_lst rfl)) (a1of (v_at rfl) (tup_lst rfl)) tup2))) ?_
    rfl
  · rintro pre x post τ h all ⟨rs, ts, t7, t8, rfl, rfl, l1, l2, c1, full, tk, t0⟩
    obtain ⟨hi, hx⟩ := zip_mid all
    obtain ⟨i, d⟩ := x
    simp only at hi hx
    subst hi
    rw [List.getElem?_map] at hx
    obtain ⟨r, hr, rfl⟩ := Option.map_eq_some_iff.mp hx
    have hlt : pre.length < n := by have := (List.getElem?_eq_some_iff.mp hr).1; omega
    have hq : pl[pre.length]? = some pl[pre.length] := List.getElem?_eq_getElem (by omega)
    have hk : ks[pre.length]? = some ks[pre.length] := List.getElem?_eq_getElem (by omega)
    generalize pl[pre.length] = q at hq
    generalize ks[pre.length] = k at hk
    have qn : q < n := by simpa using pm.mem_iff.mp (List.mem_of_getElem? hq)
    obtain ⟨r', hr', e3⟩ := shuf_turn (d1 := .rol (rows.map rowR)) Pu n32 s6 pm hq hk (qr r (List.mem_of_getElem? hr)) l1 l2 c1
    have kq := kk k (List.mem_of_getElem? hk)
    refine ⟨_, _, rfl, _, _, e3, _, _, _, _, rfl, rfl, by simpa using l1, by simpa using l2, fun y hy => ?_, fun j q' hj hq' => ?_, fun y hy => ?_, fun _ => ?_⟩
    · rcases List.mem_or_eq_of_mem_set hy with h | rfl
      · exact c1 y h
      · exact clo_tup (clos_nats _)
    · by_cases eq : q' = q
      · subst eq
        exact ⟨r', hr', by rw [List.getElem?_set_self (by omega)]⟩
      · rw [List.length_append, List.length_singleton] at hj
        by_cases ej : j = pre.length
        · subst ej
          rw [hq] at hq'
          exact (eq (Option.some.inj hq').symm).elim
        · rw [List.getElem?_set_ne (Ne.symm eq)]
          exact full j q' (by omega) hq'
    · rcases List.mem_or_eq_of_mem_set hy with h | rfl
      · exact tk y h
      · exact kq
    · by_cases z : pre.length = 0
      · rw [z] at hq hk
        rw [p0] at hq
        rw [k0] at hk
        cases hq
        cases hk
        rw [List.getElem?_set_self (by omega)]
      · have : q ≠ 0 := fun e => by
          subst e
          have h1 := List.getElem?_eq_some_iff.mp hq
          have h0 := List.getElem?_eq_some_iff.mp p0
          obtain ⟨a1, b1⟩ := h1
          obtain ⟨a0, b0⟩ := h0
          exact z ((List.getElem_inj pnd).mp (b1.trans b0.symm))
        rw [List.getElem?_set_ne this]
        exact t0 (by omega)
noncomputable def F_law_table : SF := bodyR (b_law_table F_law_goes F_law_kinds F_law_shuffled F_law_take F_law_tongue) 5
structure Table where
  tg : List Nat
  go : List (List Nat)
  ks : List Int
def Table.d (T : Table) : D := .tup [.str (S T.tg), .tup (T.go.map rowT), .tup (T.ks.map D.int)]
structure Table.Ok (T : Table) : Prop where
  tong : Tongue T.tg
  n1 : 1 ≤ T.go.length
  n32 : T.go.length ≤ 32
  row : ∀ r ∈ T.go, RowN T.tg.length T.go.length r
  kl : T.ks.length = T.go.length
  k0 : T.ks[0]? = some (-1)
  kk : ∀ k ∈ T.ks, KOk k
theorem Table.clo {T : Table} : clo 0 T.d := clo_tup (clos_cons (clo_str _) (clos_cons (clo_tup (clos_map fun x _ => clo_tup (clos_nats _))) (clos_cons (clo_tup (clos_map fun x _ => clo_int x)) clos_nil)))
theorem table_ok {o : O} {N : Nat} (P : Hand o N) (hN : N ≤ 999900000) : ∃ (T : Table) (o' : O), T.Ok ∧ Dr F_law_table 1 [] o T.d o' ∧ Hand o' (N + 3000) := by
  obtain ⟨l, o1, T1, e1, P1⟩ := tongue_ok P (by omega)
  obtain ⟨x, o2, e2, x0, x1, P2⟩ := take_ok (m := 6) P1 (by omega) (by omega) (by omega)
  obtain ⟨y, o3, e3, y0, y1, P3⟩ := take_ok (m := 4) P2 (by omega) (by omega) (by omega)
  obtain ⟨z, o4, e4, z0, z1, P4⟩ := take_ok (m := 32) P3 (by omega) (by omega) (by omega)
  obtain ⟨n, u, n1, n32, Pu, eu⟩ : ∃ (n : Nat) (u : O), 1 ≤ n ∧ n ≤ 32 ∧ Hand u (N + 10) ∧ ∀ g : SS, sSeq (sSet 2 (s2 gAddR (sC (.int 1)) (sA (sLoc false 2 F_law_take) (sCons (sV 0) (sCons (sC (.int 6)) sNil)))))
      (sSeq (sIf (sT (s2 hEq (sA (sLoc false 2 F_law_take) (sCons (sV 0) (sCons (sC (.int 4)) sNil))) (sC (.int 0))))
        (sSet 2 (s2 gAddR (sC (.int 1)) (sA (sLoc false 2 F_law_take) (sCons (sV 0) (sCons (sC (.int 32)) sNil)))))
        sNx) g) [some (.ref 0), some (.str (S l)), none, none, none] [o1] = g [some (.ref 0), some (.str (S l)), some (.int (n : Nat)), none, none] [u] := by
    have c2 : sLoc false 2 F_law_take [.ref 0, .int 6] [o1] = .ok (.int x) [o2] := e2 0 _ rfl
    have c3 : sLoc false 2 F_law_take [.ref 0, .int 4] [o2] = .ok (.int y) [o3] := e3 0 _ rfl
    have c4 : sLoc false 2 F_law_take [.ref 0, .int 32] [o3] = .ok (.int z) [o4] := e4 0 _ rfl
    by_cases hy : y = 0
    · refine ⟨(1 + z).toNat, o4, by omega, by omega, P4, fun g => ?_⟩
      rw [show (((1 + z).toNat : Nat) : Int) = 1 + z by omega]
      refine Eq.trans (setof (s2of (c_ok _ _ _) (a2of (v_at rfl) (c_ok _ _ _) c2) add_ii)) ?_
      exact seqof (Eq.trans (ifT (tof (s2of (a2of (v_at rfl) (c_ok _ _ _) c3) (c_ok _ _ _) (eqi_t hy)))) (setL (s2of (c_ok _ _ _) (a2of (v_at rfl) (c_ok _ _ _) c4) add_ii)))
    · refine ⟨(1 + x).toNat, o3, by omega, by omega, P3.up (by omega), fun g => ?_⟩
      rw [show (((1 + x).toNat : Nat) : Int) = 1 + x by omega]
      refine Eq.trans (setof (s2of (c_ok _ _ _) (a2of (v_at rfl) (c_ok _ _ _) c2) add_ii)) ?_
      exact ifN (tof (s2of (a2of (v_at rfl) (c_ok _ _ _) c3) (c_ok _ _ _) (eqi_f hy)))
  obtain ⟨rows, o5, l5, q5, e5, P5⟩ := goes_ok Pu (by omega) T1.lo T1.hi n1 n32
  obtain ⟨ks, o6, l6, k0, kk, e6, P6⟩ := kinds_ok P5 (by omega) n1 n32
  obtain ⟨G, ts, o7, l7, q7, lt, t0, tk, e7, P7⟩ := shuffled_ok P6 (by omega) n1 n32 T1.hi l5 q5 l6 k0 kk
  refine ⟨⟨l, G, ts⟩, o7, ⟨T1, (by omega : 1 ≤ G.length), (by omega : G.length ≤ 32), by rw [l7]; exact q7, (by omega : ts.length = G.length), t0, tk⟩, ?_, P7.up (by omega)⟩
  refine Dr.of rfl (by simp) P.clo (r := .ok (Table.d ⟨l, G, ts⟩) [o7]) ?_ (frzR_clo (clo_up (by omega) Table.clo) (by simpa using cloO_up (by omega) P7.clo)) Table.clo P7.clo
  unfold F_law_table
  rw [body_toR]
  show toR (b_law_table F_law_goes F_law_kinds F_law_shuffled F_law_take F_law_tongue [some (.ref 0), none, none, none, none] [o]) = _
  unfold b_law_table
  have c1 : sLoc false 1 F_law_tongue [.ref 0] [o] = .ok (.str (S l)) [o1] := e1 0 _ rfl
  refine Eq.trans (congrArg toR (setof (a1of (v_at rfl) c1))) ?_
  refine Eq.trans (congrArg toR (eu _)) ?_
  have c5 : sLoc false 3 F_law_goes [.ref 0, .int (l.length : Nat), .int (n : Nat)] [u] = .ok (.rol (rows.map rowR)) [o5] := e5 0 _ rfl
  have c6 : sLoc false 2 F_law_kinds [.ref 0, .int (n : Nat)] [o5] = .ok (.rol (ks.map D.int)) [o6] := e6 0 _ rfl
  have c7 : sLoc false 3 F_law_shuffled [.ref 0, .rol (rows.map rowR), .rol (ks.map D.int)] [o6] = .ok (.tup [.tup (G.map rowT), .tup (ts.map D.int)]) [o7] := e7 0 _ rfl
  refine Eq.trans (congrArg toR (seqof (asgof (a3of (v_at rfl) (a3of (v_at rfl) (a1of (v_at rfl) (len_S (lineOk (by have := T1.hi; omega)))) (v_at rfl) c5) (a2of (v_at rfl) (v_at rfl) c6) c7) rfl))) ?_
  refine Eq.trans (congrArg toR (retof (a3of (v_at rfl) (v_at rfl) (v_at rfl) tup3))) ?_
  rfl
end HND
set_option linter.all false
namespace BF
def walk (step : Nat → Nat → Nat) (r : Nat) : List Nat → Nat
  | [] => r
  | c :: p => step (walk step r p) c
section
variable {s : Nat} {step : Nat → Nat → Nat} {r0 : Nat} {hit : List Nat → Prop}
end
section
variable (s : Nat) (step : Nat → Nat → Nat) (K : Nat → Bool)
def fl : Nat → Nat → Bool
  | 0, r => K r
  | k + 1, r => (List.range s).any fun c => fl k (step r c)
def fst (k r : Nat) : Nat := ((List.range s).find? fun c => fl s step K k (step r c)).getD 0
def gre : Nat → Nat → List Nat
  | 0, _ => []
  | k + 1, r => fst s step K k r :: gre k (step r (fst s step K k r))
variable {s step K}
end
end BF
set_option Elab.async false
set_option linter.all false
set_option maxRecDepth 100000
set_option maxHeartbeats 4000000
namespace K22
open PySem PySem.Spec L2 MI AT HND
section
variable (T : Table)
def stp (r c : Nat) : Nat := (((T.go[r]?).getD [])[c]?).getD 0
def knd (r : Nat) : Bool := decide ((T.ks[r]?).getD (-1) ≠ -1)
def tgA (c : Nat) : Nat := (T.tg[c]?).getD 0
def hit (r0 : Nat) (w : List Nat) : Prop := w ≠ [] ∧ knd T (BF.walk (stp T) r0 w) = true
end
section
variable {T : Table} (h : T.Ok)
theorem stp_lt (h : T.Ok) (r c : Nat) : stp T r c < T.go.length := by
  have h1 := h.n1
  unfold stp
  cases e : T.go[r]? with
  | none => simp; omega
  | some row =>
    simp only [Option.getD_some]
    cases e2 : row[c]? with
    | none => simp; omega
    | some x => simp only [Option.getD_some]; exact (h.row row (List.mem_of_getElem? e)).2 x (List.mem_of_getElem? e2)
theorem row_at (h : T.Ok) {r : Nat} (hr : r < T.go.length) : ∃ row : List Nat, T.go[r]? = some row ∧ row.length = T.tg.length ∧ (∀ x ∈ row, x < T.go.length) ∧ ∀ c, c < T.tg.length → row[c]? = some (stp T r c) := by
  refine ⟨T.go[r], List.getElem?_eq_getElem hr, (h.row _ (List.getElem_mem hr)).1, (h.row _ (List.getElem_mem hr)).2, fun c hc => ?_⟩
  have l := (h.row _ (List.getElem_mem hr)).1
  unfold stp
  rw [List.getElem?_eq_getElem hr, Option.getD_some, List.getElem?_eq_getElem (by omega), Option.getD_some]
theorem ks_at (h : T.Ok) {r : Nat} (hr : r < T.go.length) : ∃ k : Int, T.ks[r]? = some k ∧ -1 ≤ k ∧ knd T r = decide (k ≠ -1) := by
  have l : r < T.ks.length := by rw [h.kl]; exact hr
  refine ⟨T.ks[r], List.getElem?_eq_getElem l, (h.kk _ (List.getElem_mem l)).1, ?_⟩
  unfold knd
  rw [List.getElem?_eq_getElem l, Option.getD_some]
end
end K22
set_option Elab.async false
set_option linter.all false
set_option maxRecDepth 100000
set_option maxHeartbeats 4000000
namespace K22
open PySem PySem.Spec L2 MI AT HND
section
variable {T : Table}
abbrev FL (T : Table) (k r : Nat) : Bool := BF.fl T.tg.length (stp T) (knd T) k r
theorem go_eq (h : T.Ok) {r : Nat} (hr : r < T.go.length) : T.go[r]? = some ((List.range T.tg.length).map (stp T r)) := by
  obtain ⟨row, e, l, _, at'⟩ := row_at h hr
  rw [e]
  congr 1
  refine List.ext_getElem? fun i => ?_
  by_cases hi : i < T.tg.length
  · rw [at' i hi, List.getElem?_map, List.getElem?_range hi]; rfl
  · rw [List.getElem?_eq_none (by omega), List.getElem?_eq_none (by simp; omega)]
def kI (T : Table) (r : Nat) : Int := (T.ks[r]?).getD (-1)
abbrev rowD (T : Table) (r : Nat) : D := rowT ((List.range T.tg.length).map (stp T r))
theorem at_last {α : Type} (l : List α) (x : α) : atI (l ++ [x]) (-1) = some x := by
  have : ixN (l ++ [x]).length (-1) = some l.length := by
    unfold ixN
    rw [if_neg (by decide), List.length_append, List.length_singleton]
    rw [if_pos (by omega)]
    congr 1
    omega
  unfold atI
  rw [this]
  simp
end
end K22
set_option Elab.async false
set_option linter.all false
set_option maxRecDepth 100000
set_option maxHeartbeats 4000000
namespace K22
open PySem PySem.Spec L2 MI AT HND
section
variable {T : Table}
def ans? (T : Table) (r : Nat) : Option Nat := (List.range T.go.length).find? fun i => FL T (1 + i) r
def gtx (T : Table) (k r : Nat) : List Nat := (BF.gre T.tg.length (stp T) (knd T) k r).map (tgA T)
def A (T : Table) (r : Nat) : D := match ans? T r with | none => .non | some i => .str (S (gtx T (1 + i) r))
theorem row_ix (h : T.Ok) {r : Nat} (hr : r < T.go.length) (hh : Hd) : gIx (.tup (T.go.map rowT)) (natD r) hh = .ok (rowD T r) hh := ix_t (by rw [List.getElem?_map, go_eq h hr]; rfl)
end
end K22
set_option Elab.async false
set_option linter.all false
set_option maxRecDepth 100000
set_option maxHeartbeats 4000000
namespace K23
open PySem PySem.Spec L2 MI AT HND K22
section
variable {T : Table}
def Pln : D → Prop
  | .non => True | .bl _ => True | .int _ => True | .str x => x.cps.toList.length ≤ 1000 | .tup xs => clos 0 xs | .rol xs => clos 0 xs | .rod _ xs => clos 0 xs | _ => False
theorem Pln.clo {d : D} (p : Pln d) : clo 0 d := by
  cases d <;> first | (simp only [Pln] at p; done) | (simp only [Pln] at p; simpa [MI.clo] using p) | simp [MI.clo]
def isStr : D → Bool | .str _ => true | _ => false
theorem isi_s {d : D} {h : Hd} (p : Pln d) : gIsiR [d, .ty "str"] h = .ok (.bl (isStr d)) h := by
  cases d <;> first | (simp only [Pln] at p; done) | simp [gIsiR, gIsi, tyD, subT, isStr]
def psn (T : Table) (c : Nat) : Nat := (findC (S T.tg) c).toNat
def ldw (T : Table) (r : Nat) : List Nat → Nat
  | [] => r
  | c :: l => ldw T (stp T r (psn T c)) l
theorem psn_ok {c : Nat} (hc : c ∈ T.tg) : findC (S T.tg) c = (psn T c : Nat) ∧ psn T c < T.tg.length := by
  obtain ⟨i, e1, e2, _⟩ := findC_at (T := S T.tg) (c := c) (by rw [S_cps]; exact hc)
  rw [S_cps] at e2
  unfold psn
  rw [e1]
  exact ⟨by simp, by simpa using (List.getElem?_eq_some_iff.mp e2).1⟩
theorem ldw_lt (h : T.Ok) : ∀ (l : List Nat) {r : Nat}, r < T.go.length → ldw T r l < T.go.length
  | [], _, hr => hr
  | c :: l, r, _ => ldw_lt h l (stp_lt h r _)
theorem ldw_snoc (c : Nat) : ∀ (l : List Nat) (r : Nat), ldw T r (l ++ [c]) = stp T (ldw T r l) (psn T c)
  | [], _ => rfl
  | d :: l, r => ldw_snoc c l _
theorem it_S (l : List Nat) (h : Hd) : itOf (.str (S l)) h = .ok ⟨l.map fun c => .str (S [c]), fun _ => True⟩ h := by
  show R.ok (⟨signsD (S l), fun _ => True⟩ : Itm) _ = _
  unfold signsD
  rw [S_cps]
theorem find_S {c : Nat} (hc : c ∈ T.tg) (h : Hd) : gFind (.str (S T.tg)) [.str (S [c])] h = .ok (natD (psn T c)) h := by
  show R.ok (D.int (findC (S T.tg) c)) h = _
  rw [(psn_ok hc).1]
theorem index_S {c : Nat} (hc : c ∈ T.tg) (h : Hd) : gIndex (.str (S T.tg)) [.str (S [c])] h = .ok (natD (psn T c)) h := by
  show (if c ∈ (S T.tg).cps.toList then R.ok (D.int (findC (S T.tg) c)) h else .no) = _
  rw [if_pos (by rw [S_cps]; exact hc), (psn_ok hc).1]
theorem msof {g : D → List D → Hd → R D} {f : SE} {k : SA} {τ : Sd} {h h1 h2 h3 : Hd} {z : Str} {ds : List D} {v : D} (e1 : f τ h = .ok (.str z) h1) (e2 : k τ h1 = .ok ds h2) (e3 : g (.str z) ds h2 = .ok v h3) : sMS g f k τ h = .ok v h3 := by
  unfold sMS
  rw [e1, bind_ok]
  dsimp only
  rw [e2, bind_ok, e3]
theorem rowIx (h : T.Ok) {r c : Nat} (hc : c < T.tg.length) (hh : Hd) : gIx (rowD T r) (natD c) hh = .ok (natD (stp T r c)) hh := ix_t (by rw [List.getElem?_map, List.getElem?_map, List.getElem?_range hc]; rfl)
theorem args3 {d e : D} (hd : clo 0 d) (he : clo 0 e) : ∀ x ∈ [T.d, d, e], clo 0 x := by
  intro x hx
  simp only [List.mem_cons, List.not_mem_nil, or_false] at hx
  rcases hx with rfl | rfl | rfl
  · exact Table.clo
  · exact hd
  · exact he
noncomputable def F_law_led : SF := bodyR b_law_led 4
theorem led_ok (h : T.Ok) {r : Nat} {l : List Nat} (hr : r < T.go.length) (hl : ∀ c ∈ l, c ∈ T.tg) : Pu F_law_led 3 [T.d, natD r, .str (S l)] (natD (ldw T r l)) := by
  refine Pu.of rfl (args3 (clo_int _) (clo_str _)) (r := .ok (natD (ldw T r l)) []) ?_ (frzR_clo (clo_int _) (by simp)) (clo_int _)
  unfold F_law_led
  rw [body_toR]
  show toR (b_law_led [some T.d, some (natD r), some (.str (S l)), none] []) = _
  unfold b_law_led
  refine Eq.trans (congrArg toR (forof (itof (v_at rfl) (it_S l _)))) ?_
  have lp := forT_all (g := kN 3) (b := b_law_led_L0) (fun c : Nat => D.str (S [c]))
    (fun pre τ hh => ∃ t3 : Option D, τ = [some T.d, some (natD (ldw T r pre)), some (.str (S l)), t3] ∧ hh = []) l [some T.d, some (natD r), some (.str (S l)), none] [] ?_ ⟨none, rfl, rfl⟩
  · obtain ⟨τ', h', e, t3, rfl, rfl⟩ := lp
    refine Eq.trans (congrArg (fun z => toR (thn z _)) e) ?_
    rfl
  · rintro pre c post τ hh all ⟨t3, rfl, rfl⟩
    have hc := hl c (by rw [all]; simp)
    refine ⟨_, _, rfl, [some T.d, some (natD (ldw T r (pre ++ [c]))), some (.str (S l)), some (.str (S [c]))], [], ?_, _, rfl, rfl⟩
    rw [ldw_snoc]
    unfold b_law_led_L0
    exact setL (s2of (s2of (s2of (v_at rfl) (c_ok _ _ _) (ix_t (j := 1) rfl)) (v_at rfl) (row_ix h (ldw_lt h pre hr) _)) (msof (s2of (v_at rfl) (c_ok _ _ _) (ix_t (j := 0) rfl)) (arg1 (v_at rfl)) (find_S hc _)) (rowIx h (psn_ok hc).2 _))
noncomputable def F_rooms_along : SF := bodyR b_rooms_along 8
noncomputable def F_room_from : SF := bodyR (b_room_from F_rooms_along) 3
def rms (T : Table) (r : Nat) (l : List Nat) : List Nat := (List.range (l.length + 1)).map fun i => ldw T r (l.take i)
theorem rms_snoc (r c : Nat) (l : List Nat) : rms T r (l ++ [c]) = rms T r l ++ [ldw T r (l ++ [c])] := by
  unfold rms
  rw [List.length_append, List.length_singleton, List.range_succ (n := l.length + 1), List.map_append, List.map_singleton]
  congr 1
  · refine List.map_congr_left fun i hi => ?_
    rw [List.mem_range] at hi
    rw [List.take_append_of_le_length (by omega)]
  · rw [List.take_of_length_le (by simp)]
theorem rms_last (r : Nat) (l : List Nat) : ∃ p, rms T r l = p ++ [ldw T r l] := by
  unfold rms
  rw [List.range_succ, List.map_append, List.map_singleton]
  exact ⟨_, by rw [List.take_of_length_le (Nat.le_refl _)]⟩
theorem along_ok (h : T.Ok) {r : Nat} {l : List Nat} (hr : r < T.go.length) (hl : ∀ c ∈ l, c ∈ T.tg) (ll : l.length ≤ 1000) : Pu F_rooms_along 3 [T.d, natD r, .str (S l)] (.rol ((rms T r l).map natD)) := by
  refine Pu.of rfl (args3 (clo_int _) (clo_str _)) (r := .ok (.ref 0) [.lst ((rms T r l).map natD)]) ?_ (frzR_lst (Nat.le_refl _) rfl (clos_nats _) (by simp)) (clo_rol (clos_nats _))
  unfold F_rooms_along
  rw [body_toR]
  show toR (b_rooms_along [some T.d, some (natD r), some (.str (S l)), none, none, none, none, none] []) = _
  unfold b_rooms_along
  refine Eq.trans (congrArg toR (seqof (asgof (v_at rfl) rfl))) ?_
  refine Eq.trans (congrArg toR (setof (d := .ref 0) (h1 := [.lst ((rms T r []).map natD)]) rfl)) ?_
  refine Eq.trans (congrArg toR (forof (itof (v_at rfl) (it_S l _)))) ?_
  have lp := forT_all (g := kN 7) (b := b_rooms_along_L0) (fun c : Nat => D.str (S [c]))
    (fun pre τ hh => ∃ t7 : Option D, τ = [some T.d, some (natD r), some (.str (S l)), some (.str (S T.tg)), some (.tup (T.go.map rowT)), some (.tup (T.ks.map D.int)), some (.ref 0), t7] ∧ hh = [.lst ((rms T r pre).map natD)]) l
    [some T.d, some (natD r), some (.str (S l)), some (.str (S T.tg)), some (.tup (T.go.map rowT)), some (.tup (T.ks.map D.int)), some (.ref 0), none] [.lst ((rms T r []).map natD)] ?_ ⟨none, rfl, rfl⟩
  · obtain ⟨τ', h', e, t7, rfl, rfl⟩ := lp
    refine Eq.trans (congrArg (fun z => toR (thn z _)) e) ?_
    rfl
  · rintro pre c post τ hh all ⟨t7, rfl, rfl⟩
    have hc := hl c (by rw [all]; simp)
    have pl : pre.length ≤ l.length := by rw [all]; simp
    refine ⟨_, _, rfl, [some T.d, some (natD r), some (.str (S l)), some (.str (S T.tg)), some (.tup (T.go.map rowT)), some (.tup (T.ks.map D.int)), some (.ref 0), some (.str (S [c]))], [.lst ((rms T r (pre ++ [c])).map natD)], ?_, _, rfl, rfl⟩
    unfold b_rooms_along_L0
    obtain ⟨p, ep⟩ := rms_last (T := T) r pre
    have last : ∀ hh : Hd, hh[0]? = some (.lst ((rms T r pre).map natD)) → gIx (.ref 0) (.int (-1)) hh = .ok (natD (ldw T r pre)) hh := fun hh e0 => by
      rw [ix_ref]
      unfold seqD
      simp only [e0]
      rw [ep, List.map_append, List.map_singleton, at_last]
    refine Eq.trans (dropML (v := .non) (v_at rfl) rfl (arg1 (s2of (s2of (v_at rfl) (s2of (v_at rfl) (s1of (c_ok _ _ _) (neg_i _)) (last _ rfl)) (row_ix h (ldw_lt h pre hr) _)) (msof (v_at rfl) (arg1 (v_at rfl)) (index_S hc _)) (rowIx h (psn_ok hc).2 _))) (app_at (xs := (rms T r pre).map natD) rfl (lineLt (by simp [rms]; omega)))) ?_
    rw [rms_snoc, List.map_append, ldw_snoc]
    rfl
theorem from_ok (h : T.Ok) {r : Nat} {l : List Nat} (hr : r < T.go.length) (hl : ∀ c ∈ l, c ∈ T.tg) (ll : l.length ≤ 1000) : Pu F_room_from 3 [T.d, natD r, .str (S l)] (natD (ldw T r l)) := by
  refine Pu.of rfl (args3 (clo_int _) (clo_str _)) (r := .ok (natD (ldw T r l)) []) ?_ (frzR_clo (clo_int _) (by simp)) (clo_int _)
  unfold F_room_from
  rw [body_toR]
  show toR (b_room_from F_rooms_along [some T.d, some (natD r), some (.str (S l))] []) = _
  unfold b_room_from
  obtain ⟨p, ep⟩ := rms_last (T := T) r l
  refine congrArg toR (retof (s2of (a3of (v_at rfl) (v_at rfl) (v_at rfl) (along_ok h hr hl ll _)) (s1of (c_ok _ _ _) (neg_i _)) ?_))
  rw [ix_rol, ep, List.map_append, List.map_singleton, at_last]
noncomputable def F_is_text : SF := bodyR b_is_text 2
def inT (T : Table) (l : List Nat) : Bool := l.all fun c => decide (c ∈ T.tg)
theorem gall_r (bs : List Bool) (h : Hd) : gAll [.rol (bs.map D.bl)] h = .ok (.bl (bs.all id)) h := by
  unfold gAll
  simp only [blsD_map]
theorem signs_in {l : List Nat} (ll : l.length ≤ 1000) {ce : SE} (hce : ∀ c : Nat, ce [some (.str (S [c])), some (.str (S T.tg))] [] = .ok (.bl (decide (c ∈ T.tg))) []) {τ : Sd} (h1 : τ[1]? = some (some (.str (S l)))) (h0 : τ[0]? = some (some (.str (S T.tg)))) :
    sA gAll (sCons (sZ (sComp (sIt (sV 1)) t1 ce [0])) sNil) τ [] = .ok (.bl (inT T l)) [] := by
  have cz : sZ (sComp (sIt (sV 1)) t1 ce [0]) τ [] = .ok (.rol ((l.map fun c => decide (c ∈ T.tg)).map D.bl)) [] := by
    rw [List.map_map]
    refine z_lst (comp_pure (fun c : Nat => D.str (S [c])) (fun c => .bl (decide (c ∈ T.tg))) l (itof (v_at h1) (it_S l _)) (lineOk (by omega)) fun c _ => ?_) (clos_map fun c _ => clo_bl _) (by simp)
    rw [bindT_1, frs_cons, frs_nil, h0]
    exact hce c
  refine a1of cz ?_
  rw [gall_r]
  congr 2
  unfold inT
  rw [List.all_map]
  rfl
theorem sign_in (c : Nat) (h : Hd) : gIn false (.str (S [c])) (.str (S T.tg)) h = .ok (.bl (decide (c ∈ T.tg))) h := by
  show R.ok (D.bl (decide (c ∈ (S T.tg).cps.toList))) h = _
  rw [S_cps]
theorem is_text_s {l : List Nat} (ll : l.length ≤ 1000) : Pu F_is_text 2 [.str (S T.tg), .str (S l)] (.bl (inT T l)) := by
  refine Pu.of rfl (by intro x hx; simp only [List.mem_cons, List.not_mem_nil, or_false] at hx; rcases hx with rfl | rfl <;> exact clo_str _) (r := .ok (.bl (inT T l)) []) ?_ (frzR_clo (clo_bl _) (by simp)) (clo_bl _)
  unfold F_is_text
  rw [body_toR]
  show toR (b_is_text [some (.str (S T.tg)), some (.str (S l))] []) = _
  unfold b_is_text
  exact congrArg toR (retof (andVT (a2of (v_at rfl) (c_ok _ _ _) (isi_s (d := .str (S l)) (by simp only [Pln, S_cps]; exact ll))) (signs_in ll (fun c => s2of (v_at rfl) (v_at rfl) (sign_in c _)) rfl rfl)))
theorem andVF {f k : SE} {τ : Sd} {h h1 : Hd} (e : f τ h = .ok (.bl false) h1) : sAndV f k τ h = .ok (.bl false) h1 := by unfold sAndV; rw [e, bind_ok]
theorem is_text_n {d : D} (p : Pln d) (ns : isStr d = false) : Pu F_is_text 2 [.str (S T.tg), d] (.bl false) := by
  refine Pu.of rfl (by intro x hx; simp only [List.mem_cons, List.not_mem_nil, or_false] at hx; rcases hx with rfl | rfl; exact clo_str _; exact p.clo) (r := .ok (.bl false) []) ?_ (frzR_clo (clo_bl _) (by simp)) (clo_bl _)
  unfold F_is_text
  rw [body_toR]
  show toR (b_is_text [some (.str (S T.tg)), some d] []) = _
  unfold b_is_text
  exact congrArg toR (retof (andVF (a2of (v_at rfl) (c_ok _ _ _) (by rw [isi_s p, ns]))))
end
end K23
set_option Elab.async false
set_option linter.all false
set_option maxRecDepth 100000
set_option maxHeartbeats 4000000
namespace EVX
open PySem PySem.Spec L2 MI
section
variable {i : Nat} {cs : Str → Bool} {fb fs p g : SS} {τ τ1 τ2 : Sd} {h h1 h2 : Hd} {c : Str} {f : SE} {ka : SA} {ds : List D} {F : SF} {n : Nat}
theorem seqex (e : p τ h = .ex c h1) : sSeq p g τ h = .ex c h1 := by unfold sSeq; rw [e]
theorem raiseof (e : ka τ h = .ok ds h1) (l : ds.length ≤ 100) : sRaise c ka τ h = .ex c h1 := by
  unfold sRaise
  rw [e]
  show (if ds.length ≤ LINE then Fl.ex c h1 else .no) = _
  rw [if_pos (lineOk (by omega))]
theorem locX_ex (hn : ds.length = n) (cd : ∀ x ∈ ds, MI.clo 0 x) (e : F ds [] = .ex c h1) : sLocX n F ds h = .ex c h := by
  unfold sLocX
  rw [if_pos cd, e]
  exact if_pos hn
theorem locX_ok {d d' : D} (cd : ∀ x ∈ ds, MI.clo 0 x) (e : F ds [] = .ok d h1) (p : Pu F n ds d') : sLocX n F ds h = .ok d' h := by
  unfold sLocX
  rw [if_pos cd, e]
  exact p h
theorem try_ex (e : fb τ h = .ex c h1) (hc : cs c = true) (e2 : fs (τ.set i (some (.exc c))) h1 = .nx τ2 h2) : sTry i cs fb fs τ h = .nx (τ2.set i none) h2 := by
  unfold sTry
  rw [e]
  show (if cs c = true then _ else _) = _
  rw [if_pos hc, e2]
theorem setex (e : f τ h = .ex c h1) : sSet i f τ h = .ex c h1 := by unfold sSet; rw [e]; rfl
theorem dropex (e : f τ h = .ex c h1) : sDrop f τ h = .ex c h1 := by unfold sDrop; rw [e]; rfl
theorem retex (e : f τ h = .ex c h1) : sRet f τ h = .ex c h1 := by unfold sRet; rw [e]; rfl
theorem aex (e : ka τ h = .ex c h1) : sA F ka τ h = .ex c h1 := by unfold sA; rw [e]; rfl
theorem cons1ex (e : f τ h = .ex c h1) : sCons f ka τ h = .ex c h1 := by unfold sCons; rw [e]; rfl
theorem cons2ex {d : D} (e : f τ h = .ok d h1) (e2 : ka τ h1 = .ex c h2) : sCons f ka τ h = .ex c h2 := by unfold sCons; rw [e, bind_ok, e2]; rfl
theorem qof {α : Type} {k : Sd → Hd → R α} {x : α} (e : k τ h = .ok x h1) : qA k τ h = .ok x h1 := by unfold qA; rw [e]; rfl
theorem aXof (e : ka τ h = .ok ds h1) : sA F ka τ h = F ds h1 := by unfold sA; rw [e]; rfl
theorem isEof {x : Str → Option Bool} {b : Bool} (e : τ[i]? = some (some (.exc c))) (e2 : x c = some b) : sIsE i x τ h = .ok (.bl b) h := by unfold sIsE; rw [e]; dsimp only; rw [e2]
theorem notVof {b : Bool} (e : f τ h = .ok (.bl b) h1) : sNotV f τ h = .ok (.bl (!b)) h1 := by unfold sNotV; rw [e]; rfl
theorem consof {d : D} (e : f τ h = .ok d h1) (e2 : ka τ h1 = .ok ds h2) : sCons f ka τ h = .ok (d :: ds) h2 := by
  unfold sCons
  rw [e, bind_ok, e2]
  rfl
theorem tup1 {a : D} : MI.gTup [a] h = .ok (.tup [a]) h := by unfold MI.gTup; rw [if_pos (lineOk (by simp))]
theorem tup0 : MI.gTup [] h = .ok (.tup []) h := by unfold MI.gTup; rw [if_pos (lineOk (by simp))]
theorem z_dnew : sZ sDNew τ [] = .ok (.rod [] []) [] := by
  unfold sZ
  show frzR 0 (.ok (.ref 0) [.dK []]) = _
  refine frzR_of (h1 := [.dK []]) ?_ (by simp)
  unfold FU frzD
  rw [if_neg (by simp only [MI.clo]; omega)]
  rfl
theorem a4of {G : List D → Hd → R D} {f1 f2 f3 f4 : SE} {h3 h4 h5 : Hd} {a b c d v : D} (e1 : f1 τ h = .ok a h1) (e2 : f2 τ h1 = .ok b h2) (e3 : f3 τ h2 = .ok c h3) (e4 : f4 τ h3 = .ok d h4) (e5 : G [a, b, c, d] h4 = .ok v h5) : sA G (sCons f1 (sCons f2 (sCons f3 (sCons f4 sNil)))) τ h = .ok v h5 := by
  have : sCons f1 (sCons f2 (sCons f3 (sCons f4 sNil))) τ h = .ok [a, b, c, d] h4 := by unfold sCons; rw [e1, bind_ok, e2, bind_ok, e3, bind_ok, e4]; rfl
  unfold sA
  rw [this, bind_ok, e5]
end
end EVX
set_option Elab.async false
set_option linter.all false
set_option maxRecDepth 100000
set_option maxHeartbeats 4000000
namespace K21
open PySem PySem.Spec L2 MI AT HND K22 K23 EVX
section
variable {T : Table}
noncomputable def F_is_text : SF := bodyR b_is_text 2
noncomputable def F_rooms_along : SF := bodyR b_rooms_along 8
noncomputable def F_room_from : SF := bodyR (b_room_from F_rooms_along) 3
noncomputable def F_law_led : SF := bodyR b_law_led 4
noncomputable def F_law_signs : SF := bodyR b_law_signs 1
noncomputable def F_law_tongue : SF := bodyR (b_law_tongue F_law_signs F_law_take) 5
noncomputable def F_law_table : SF := bodyR (b_law_table F_law_goes F_law_kinds F_law_shuffled F_law_take F_law_tongue) 5
theorem table_ok {o : O} {N : Nat} (P : Hand o N) (hN : N ≤ 999900000) : ∃ (T : Table) (o' : O), T.Ok ∧ Dr F_law_table 1 [] o T.d o' ∧ Hand o' (N + 3000) := HND.table_ok P hN
theorem signs_ok : Pu F_law_signs 0 [] (.str (S sig)) := HND.signs_ok
theorem led_ok (h : T.Ok) {l : List Nat} (hl : ∀ c ∈ l, c ∈ T.tg) : Pu F_law_led 3 [T.d, .int 0, .str (S l)] (natD (ldw T 0 l)) := K23.led_ok (r := 0) h h.n1 hl
theorem from_ok (h : T.Ok) {l : List Nat} (hl : ∀ c ∈ l, c ∈ T.tg) (ll : l.length ≤ 1000) : Pu F_room_from 3 [T.d, .int 0, .str (S l)] (natD (ldw T 0 l)) := K23.from_ok (r := 0) h h.n1 hl ll
def txt (T : Table) : D → Bool
  | .str x => inT T x.cps.toList
  | _ => false
theorem txt_S (l : List Nat) : txt T (.str (S l)) = inT T l := by simp only [txt, S_cps]
theorem is_text_ok {d : D} (p : Pln d) : Pu F_is_text 2 [.str (S T.tg), d] (.bl (txt T d)) := by
  by_cases sd : isStr d = true
  · obtain ⟨x, rfl⟩ : ∃ x, d = .str x := by cases d <;> first | exact ⟨_, rfl⟩ | (simp [isStr] at sd)
    have ll : x.cps.toList.length ≤ 1000 := p
    rw [← S_eta x] at ll ⊢
    rw [S_cps] at ll
    rw [txt_S]
    exact K23.is_text_s ll
  · have sd' : isStr d = false := by simpa using sd
    have : txt T d = false := by cases d <;> first | rfl | (simp [isStr] at sd)
    rw [this]
    exact K23.is_text_n p sd'
theorem args2 {a b : D} (ha : MI.clo 0 a) (hb : MI.clo 0 b) : ∀ x ∈ [a, b], MI.clo 0 x := by
  intro x hx
  simp only [List.mem_cons, List.not_mem_nil, or_false] at hx
  rcases hx with rfl | rfl
  · exact ha
  · exact hb
theorem args3' {a b c : D} (ha : MI.clo 0 a) (hb : MI.clo 0 b) (hc : MI.clo 0 c) : ∀ x ∈ [a, b, c], MI.clo 0 x := by
  intro x hx
  simp only [List.mem_cons, List.not_mem_nil, or_false] at hx
  rcases hx with rfl | rfl | rfl
  · exact ha
  · exact hb
  · exact hc
noncomputable def F_looked_text : SF := bodyR (b_looked_text F_is_text) 2
theorem looked_run {d : D} (p : Pln d) : F_looked_text [.str (S T.tg), d] [] = if txt T d = true then .ok d [] else .ex "NoText" [] := by
  unfold F_looked_text
  rw [body_toR]
  show toR (b_looked_text F_is_text [some (.str (S T.tg)), some d] []) = _
  unfold b_looked_text
  have c := is_text_ok (T := T) p []
  cases e : txt T d with
  | true =>
    rw [e] at c
    rw [if_pos rfl]
    refine Eq.trans (congrArg toR (ifN (notT (truof (a2of (v_at rfl) (v_at rfl) c) (tru_bl _))))) ?_
    exact congrArg toR (retof (v_at rfl))
  | false =>
    rw [e] at c
    rw [if_neg (by simp)]
    exact congrArg toR (seqex (Eq.trans (ifT (notF (truof (a2of (v_at rfl) (v_at rfl) c) (tru_bl _)))) (raiseof (arg1 (c_ok _ _ _)) (by simp))))
theorem looked_t {d : D} (p : Pln d) (t : txt T d = true) (h : Hd) : sLocX 2 F_looked_text [.str (S T.tg), d] h = .ok d h := by
  have r := looked_run (T := T) p
  rw [if_pos t] at r
  exact locX_ok (args2 (clo_str _) p.clo) r (Pu.of rfl (args2 (clo_str _) p.clo) r (frzR_clo p.clo (by simp)) p.clo)
theorem looked_f {d : D} (p : Pln d) (t : txt T d = false) (h : Hd) : sLocX 2 F_looked_text [.str (S T.tg), d] h = .ex "NoText" h := by
  have r := looked_run (T := T) p
  rw [if_neg (by simp [t])] at r
  exact locX_ex rfl (args2 (clo_str _) p.clo) r
noncomputable def F_room_of : SF := bodyR (b_room_of F_looked_text F_room_from) 2
noncomputable def F_kind_of : SF := bodyR (b_kind_of F_room_of) 3
theorem tg_ix (h : Hd) : gIx T.d (.int 0) h = .ok (.str (S T.tg)) h := ix_t (j := 0) rfl
theorem ks_ix (h : Hd) : gIx T.d (.int 2) h = .ok (.tup (T.ks.map D.int)) h := ix_t (j := 2) rfl
theorem room_bad {d : D} (p : Pln d) (t : txt T d = false) (h : Hd) : sLocX 2 F_room_of [T.d, d] h = .ex "NoText" h := by
  refine locX_ex rfl (args2 Table.clo p.clo) (h1 := []) ?_
  unfold F_room_of
  rw [body_toR]
  show toR (b_room_of F_looked_text F_room_from [some T.d, some d] []) = _
  unfold b_room_of
  exact congrArg toR (retex (aex (cons2ex (v_at rfl) (cons2ex (c_ok _ _ _) (cons1ex ((aXof (consof (s2of (v_at rfl) (c_ok _ _ _) (tg_ix _)) (consof (v_at rfl) rfl))).trans (looked_f p t _)))))))
theorem kind_bad {d : D} (p : Pln d) (t : txt T d = false) (h : Hd) : sLocX 2 F_kind_of [T.d, d] h = .ex "NoText" h := by
  refine locX_ex rfl (args2 Table.clo p.clo) (h1 := []) ?_
  unfold F_kind_of
  rw [body_toR]
  show toR (b_kind_of F_room_of [some T.d, some d, none] []) = _
  unfold b_kind_of
  exact congrArg toR (seqex (setex ((aXof (consof (v_at rfl) (consof (v_at rfl) rfl))).trans (room_bad p t _))))
theorem pln_S {l : List Nat} (ll : l.length ≤ 1000) : Pln (.str (S l)) := by simp only [Pln, S_cps]; exact ll
theorem inT_of {l : List Nat} (hl : ∀ c ∈ l, c ∈ T.tg) : inT T l = true := by
  unfold inT
  rw [List.all_eq_true]
  exact fun c hc => decide_eq_true (hl c hc)
theorem room_good (h : T.Ok) {l : List Nat} (hl : ∀ c ∈ l, c ∈ T.tg) (ll : l.length ≤ 1000) (hh : Hd) : sLocX 2 F_room_of [T.d, .str (S l)] hh = .ok (natD (ldw T 0 l)) hh := by
  have r : F_room_of [T.d, .str (S l)] [] = .ok (natD (ldw T 0 l)) [] := by
    unfold F_room_of
    rw [body_toR]
    show toR (b_room_of F_looked_text F_room_from [some T.d, some (.str (S l))] []) = _
    unfold b_room_of
    have lk := looked_t (T := T) (pln_S ll) (by rw [txt_S]; exact inT_of hl) []
    exact congrArg toR (retof (a3of (v_at rfl) (c_ok _ _ _) ((aXof (consof (s2of (v_at rfl) (c_ok _ _ _) (tg_ix _)) (consof (v_at rfl) rfl))).trans lk) (from_ok h hl ll _)))
  have ca := args2 (Table.clo (T := T)) (clo_str (n := 0) (S l))
  exact locX_ok ca r (Pu.of rfl ca r (frzR_clo (clo_int _) (by simp)) (clo_int _))
theorem ks_get (h : T.Ok) {r : Nat} (hr : r < T.go.length) (hh : Hd) : gIx (.tup (T.ks.map D.int)) (natD r) hh = .ok (.int (kI T r)) hh := by
  obtain ⟨k, e, _⟩ := ks_at h hr
  exact ix_t (by rw [List.getElem?_map, e]; simp [kI, e])
theorem kind_good (h : T.Ok) {l : List Nat} (hl : ∀ c ∈ l, c ∈ T.tg) (ll : l.length ≤ 1000) (hh : Hd) : sLocX 2 F_kind_of [T.d, .str (S l)] hh = .ok (.int (kI T (ldw T 0 l))) hh := by
  have r : F_kind_of [T.d, .str (S l)] [] = .ok (.int (kI T (ldw T 0 l))) [] := by
    unfold F_kind_of
    rw [body_toR]
    show toR (b_kind_of F_room_of [some T.d, some (.str (S l)), none] []) = _
    unfold b_kind_of
    refine Eq.trans (congrArg toR (setof ((aXof (consof (v_at rfl) (consof (v_at rfl) rfl))).trans (room_good h hl ll _)))) ?_
    exact congrArg toR (retof (s2of (s2of (v_at rfl) (c_ok _ _ _) (ks_ix _)) (v_at rfl) (ks_get h (ldw_lt h l h.n1) _)))
  have ca := args2 (Table.clo (T := T)) (clo_str (n := 0) (S l))
  exact locX_ok ca r (Pu.of rfl ca r (frzR_clo (clo_int _) (by simp)) (clo_int _))
noncomputable def F_law_number : SF := bodyR b_law_number 3
theorem number_ok (x : Int) : Pu F_law_number 3 [.int x, .int x, .int x] (.bl true) := by
  refine Pu.of rfl (by intro y hy; simp only [List.mem_cons, List.not_mem_nil, or_false, or_self] at hy; subst hy; exact clo_int _) (r := .ok (.bl true) []) ?_ (frzR_clo (clo_bl _) (by simp)) (clo_bl _)
  unfold F_law_number
  rw [body_toR]
  show toR (b_law_number [some (.int x), some (.int x), some (.int x)] []) = _
  unfold b_law_number
  have le : ∀ hh : Hd, gLe (.int x) (.int x) hh = .ok (.bl true) hh := fun hh => by
    show R.ok (D.bl (decide (x ≤ x))) hh = _
    rw [decide_eq_true (Int.le_refl x)]
  have ch : sCh gLe gLe (sV 1) (sV 0) (sV 2) [some (.int x), some (.int x), some (.int x)] [] = .ok (.bl true) [] := by
    unfold sCh
    rw [v_at rfl, bind_ok, v_at rfl, bind_ok, le, bind_ok]
    dsimp only
    rw [v_at rfl, bind_ok]
    exact le _
  have ii : ∀ hh : Hd, gIsiR [.int x, .ty "int"] hh = .ok (.bl true) hh := fun hh => by simp [gIsiR, gIsi, tyD, subT]
  have ib : ∀ hh : Hd, gIsiR [.int x, .ty "bool"] hh = .ok (.bl false) hh := fun hh => by simp [gIsiR, gIsi, tyD, subT]
  exact congrArg toR (retof (andVT (a2of (v_at rfl) (c_ok _ _ _) (ii _)) (andVT (EVX.notVof (b := false) (a2of (v_at rfl) (c_ok _ _ _) (ib _))) ch)))
noncomputable def F_law_right : SF := bodyR (b_law_right F_law_led F_law_number F_kind_of F_room_of) 5
theorem right_ok (h : T.Ok) {l : List Nat} (hl : ∀ c ∈ l, c ∈ T.tg) (ll : l.length ≤ 1000) : Pu F_law_right 2 [T.d, .str (S l)] (.bl true) := by
  refine Pu.of rfl (args2 Table.clo (clo_str _)) (r := .ok (.bl true) []) ?_ (frzR_clo (clo_bl _) (by simp)) (clo_bl _)
  unfold F_law_right
  rw [body_toR]
  show toR (b_law_right F_law_led F_law_number F_kind_of F_room_of [some T.d, some (.str (S l)), none, none, none] []) = _
  unfold b_law_right
  refine Eq.trans (congrArg toR (setof (a3of (v_at rfl) (c_ok _ _ _) (v_at rfl) (led_ok h hl _)))) ?_
  refine Eq.trans (congrArg toR (setof (s2of (s2of (v_at rfl) (c_ok _ _ _) (ks_ix _)) (v_at rfl) (ks_get h (ldw_lt h l h.n1) _)))) ?_
  refine Eq.trans (congrArg toR (setof ((aXof (consof (v_at rfl) (consof (v_at rfl) rfl))).trans (room_good h hl ll _)))) ?_
  refine Eq.trans (congrArg toR (ifN (notT (truof (a3of (v_at rfl) (v_at rfl) (v_at rfl) (number_ok _ _)) (tru_bl _))))) ?_
  exact congrArg toR (retof (a3of ((aXof (consof (v_at rfl) (consof (v_at rfl) rfl))).trans (kind_good h hl ll _)) (v_at rfl) (v_at rfl) (number_ok _ _)))
noncomputable def F_law_refused : SF := bodyR (b_law_refused F_kind_of F_room_of) 5
theorem refused_ok {d : D} {w : Int} (p : Pln d) (t : txt T d = false) : Pu F_law_refused 3 [T.d, d, .int w] (.bl true) := by
  refine Pu.of rfl (args3' Table.clo p.clo (clo_int _)) (r := .ok (.bl true) []) ?_ (frzR_clo (clo_bl _) (by simp)) (clo_bl _)
  unfold F_law_refused
  rw [body_toR]
  show toR (b_law_refused F_kind_of F_room_of [some T.d, some d, some (.int w), none, none] []) = _
  unfold b_law_refused
  refine Eq.trans (congrArg toR (setof (c_ok _ _ _))) ?_
  have ar : ∀ τ : Sd, τ[0]? = some (some T.d) → τ[1]? = some (some d) → qA (sCons (sV 0) (sCons (sV 1) sNil)) τ [] = .ok [T.d, d] [] := fun τ h0 h1 => qof (consof (v_at h0) (consof (v_at h1) rfl))
  refine Eq.trans (congrArg toR (seqof (try_ex (c := "NoText") (h1 := []) ?_ (by decide) (Eq.trans (setof (andVT (isEof (b := true) rfl (by decide)) (isEof (b := true) rfl (by decide)))) (Eq.trans (ifF (truof (isEof (c := "NoText") rfl (b := false) (by decide)) (tru_bl _))) rfl))))) ?_
  · by_cases h0 : w = 0
    · exact Eq.trans (ifT (qof (tof (s2of (v_at rfl) (c_ok _ _ _) (eqi_t h0))))) (dropex ((aXof (ar _ rfl rfl)).trans (room_bad p t _)))
    · exact Eq.trans (ifF (qof (tof (s2of (v_at rfl) (c_ok _ _ _) (eqi_f h0))))) (dropex ((aXof (ar _ rfl rfl)).trans (kind_bad p t _)))
  · exact congrArg toR (retof (v_at rfl))
end
end K21
set_option Elab.async false
set_option linter.all false
set_option maxRecDepth 100000
set_option maxHeartbeats 4000000
namespace K21
open PySem PySem.Spec L2 MI AT HND K22 K23 EVX
section
variable {T : Table}
abbrev ones (t : List Nat) : List D := t.map fun c => .str (S [c])
theorem join_ones : ∀ t : List Nat, Txt.join (S []) (t.map fun c => S [c]) = S t := by
  have e : ∀ zs : List Str, Txt.join (S []) zs = Str.join (S []) zs := PySem.StrLaws.glued_eq_join (S [])
  have st : ∀ (x y : Str) (r : List Str), Str.join (S []) (x :: y :: r) = x ++ S [] ++ Str.join (S []) (y :: r) := fun _ _ _ => rfl
  intro t
  rw [e]
  induction t with
  | nil => rfl
  | cons a t ih =>
    cases t with
    | nil => rfl
    | cons b t =>
      rw [List.map_cons, List.map_cons, st, show S [b] :: t.map (fun c => S [c]) = (b :: t).map (fun c => S [c]) from rfl, ih, S_app, S_app]
      rfl
theorem strs_ones : ∀ t : List Nat, strsD (ones t) = some (t.map fun c => S [c])
  | [] => rfl
  | a :: t => by
    show (strsD (ones t)).map _ = _
    rw [strs_ones t]; rfl
theorem sum_ones (t : List Nat) : ((t.map fun c => S [c]).map (·.length)).sum = t.length := by
  induction t with
  | nil => rfl
  | cons a t ih => rw [List.map_cons, List.map_cons, List.sum_cons, ih, S_len, List.length_cons]; simp; omega
theorem glue_ones {t : List Nat} {h : Hd} (z : t.length ≤ 1000000) : gJoin (.str (S [])) [.rol (ones t)] h = .ok (.str (S t)) h := by
  unfold gJoin
  simp only [strs_ones, sum_ones, S_len, List.length_nil, Nat.mul_zero, Nat.add_zero, join_ones]
  rw [if_pos (by omega)]
theorem z_at {f : SE} {τ : Sd} {h h' : Hd} {xs : List D} (hl : h'.length = h.length) (e : f τ h = .ok (.ref h'.length) (h' ++ [.lst xs])) (cx : clos h.length xs) (c : ∀ o ∈ h', cloO h.length o) : sZ f τ h = .ok (.rol xs) h' := by
  unfold sZ
  rw [e, frzR_lst (by omega) (by simp) cx (by rw [← hl]; simpa [hl] using c)]
  rw [← hl]
  simp
noncomputable def F_law_text : SF := bodyR (b_law_text F_law_take) 3
theorem text_ok {o : O} {N : Nat} {tg : List Nat} (P : Hand o N) (hN : N ≤ 999990000) (t1' : 1 ≤ tg.length) (t6 : tg.length ≤ 6) : ∃ t o', t.length ≤ 240 ∧ (∀ c ∈ t, c ∈ tg) ∧ Dr F_law_text 2 [.str (S tg)] o (.str (S t)) o' ∧ Hand o' (N + 1000) := by
  obtain ⟨y, o2, e2, y0, y1, P2⟩ := take_ok (m := 13) P (by omega) (by omega) (by omega)
  obtain ⟨z, o3, e3, z0, z1, P3⟩ := take_ok (m := 4) P2 (by omega) (by omega) (by omega)
  obtain ⟨v, o4, e4, v0, v1, P4⟩ := take_ok (m := 240) P3 (by omega) (by omega) (by omega)
  have c2 : sLoc false 2 F_law_take [.ref 0, .int 13] [o] = .ok (.int y) [o2] := e2 0 _ rfl
  have c3 : sLoc false 2 F_law_take [.ref 0, .int 4] [o2] = .ok (.int z) [o3] := e3 0 _ rfl
  have c4 : sLoc false 2 F_law_take [.ref 0, .int 240] [o3] = .ok (.int v) [o4] := e4 0 _ rfl
  obtain ⟨n, u, n1, Pu, eu⟩ : ∃ (n : Nat) (u : O), n ≤ 240 ∧ Hand u (N + 3) ∧ ∀ g : SS, sSeq (sSet 2 (sA (sLoc false 2 F_law_take) (sCons (sV 0) (sCons (sC (.int 13)) sNil)))) (sSeq (sIf (sT (s2 hEq (sA (sLoc false 2 F_law_take) (sCons (sV 0) (sCons (sC (.int 4)) sNil))) (sC (.int 0))))  (sSet 2 (sA (sLoc false 2 F_law_take) (sCons (sV 0) (sCons (sC (.int 240)) sNil))))  sNx) g) [some (.ref 0), some (.str (S tg)), none] [o] = g [some (.ref 0), some (.str (S tg)), some (.int (n : Nat))] [u] := by
    by_cases hz : z = 0
    · obtain ⟨n, rfl⟩ := Int.eq_ofNat_of_zero_le v0
      refine ⟨n, o4, by omega, P4, fun g => ?_⟩
      refine Eq.trans (setof (a2of (v_at rfl) (c_ok _ _ _) c2)) ?_
      exact seqof (Eq.trans (ifT (tof (s2of (a2of (v_at rfl) (c_ok _ _ _) c3) (c_ok _ _ _) (eqi_t hz)))) (setL (a2of (v_at rfl) (c_ok _ _ _) c4)))
    · obtain ⟨n, rfl⟩ := Int.eq_ofNat_of_zero_le y0
      refine ⟨n, o3, by omega, P3.up (by omega), fun g => ?_⟩
      refine Eq.trans (setof (a2of (v_at rfl) (c_ok _ _ _) c2)) ?_
      exact ifN (tof (s2of (a2of (v_at rfl) (c_ok _ _ _) c3) (c_ok _ _ _) (eqi_f hz)))
  have mp := mapT_all (f := bindT t1 (b_law_text_C0 F_law_take) (frs' [0, 1] [some (.ref 0), some (.str (S tg)), some (.int (n : Nat))])) (fun i : Nat => D.int (i : Nat))
    (fun pre ys h => ∃ (u : O) (t : List Nat), h = [u] ∧ Hand u (N + 3 + pre.length) ∧ ys = ones t ∧ t.length = pre.length ∧ ∀ c ∈ t, c ∈ tg)
    (List.range n) [] [] [u] ?_ ⟨u, [], rfl, Pu, rfl, rfl, by simp⟩
  · obtain ⟨zs, h', em, u', t, rfl, P5, ez, tl, tt⟩ := mp
    rw [List.nil_append] at ez tl P5
    rw [List.length_range] at tl P5
    subst ez
    refine ⟨t, u', by omega, tt, Dr.of rfl (by intro x hx; rw [List.mem_singleton] at hx; subst hx; exact clo_str _) P.clo (r := .ok (.str (S t)) [u']) ?_ (frzR_clo (clo_str _) (by simpa using cloO_up (by omega) P5.clo)) (clo_str _) P5.clo, P5.up (by omega)⟩
    unfold F_law_text
    rw [body_toR]
    show toR (b_law_text F_law_take [some (.ref 0), some (.str (S tg)), none] [o]) = _
    unfold b_law_text
    refine Eq.trans (congrArg toR (eu _)) ?_
    have cz : sZ (sComp (sRg gRng1 (sCons (sV 2) sNil)) t1 (b_law_text_C0 F_law_take) [0, 1]) [some (.ref 0), some (.str (S tg)), some (.int (n : Nat))] [u] = .ok (.rol (ones t)) [u'] := by
      refine z_at rfl ?_ (clos_map fun l _ => clo_str _) (by intro o ho; rw [List.mem_singleton] at ho; subst ho; exact cloO_up (by omega) P5.clo)
      unfold sComp
      rw [it_rng1 (v_at rfl) (lineOk (by omega)), bind_ok]
      dsimp only
      rw [if_pos (by rw [List.length_map, List.length_range]; exact lineOk (by omega)), em]
      rfl
    exact congrArg toR (retof (msof (z := S []) (c_ok _ _ _) (arg1 cz) (glue_ones (by omega))))
  · rintro pre i post ys h all ⟨u, t, rfl, Pu, rfl, tl, tt⟩
    rw [List.nil_append] at all
    have hi : pre.length < n := by
      have := congrArg List.length all
      simp at this
      omega
    obtain ⟨x, u', e5, x0, x1, P5⟩ := take_ok (m := (tg.length : Nat)) Pu (by omega) (by omega) (by omega)
    obtain ⟨j, rfl⟩ := Int.eq_ofNat_of_zero_le x0
    have hj : j < tg.length := by omega
    have c5 : sLoc false 2 F_law_take [.ref 0, .int (tg.length : Nat)] [u] = .ok (.int (j : Nat)) [u'] := e5 0 _ rfl
    refine ⟨.str (S [tg[j]]), [u'], ?_, u', t ++ [tg[j]], rfl, by rw [List.length_append, List.length_singleton]; exact P5, by simp [ones], by rw [List.length_append, List.length_append, tl]; rfl, fun q hq => ?_⟩
    · rw [bindT_1]
      exact s2of (v_at rfl) (a2of (v_at rfl) (a1of (v_at rfl) (len_S (lineOk (by omega)))) c5) (ix_S (lineOk (by omega)) (List.getElem?_eq_getElem hj))
    · rcases List.mem_append.mp hq with h | h
      · exact tt q h
      · rw [List.mem_singleton] at h; subst h; exact List.getElem_mem hj
theorem oSof' {f : SE} {τ : Sd} {h h1 : Hd} {i : Int} (e : f τ h = .ok (.int i) h1) : oS f τ h = .ok (some i) h1 := by unfold oS; rw [e]; rfl
theorem slof' {f : SE} {lo hi : SO} {τ : Sd} {h h1 h2 h3 h4 : Hd} {d v : D} {a b : Option Int} (e : f τ h = .ok d h1) (e1 : lo τ h1 = .ok a h2) (e2 : hi τ h2 = .ok b h3) (e3 : gSl2 d a b h3 = .ok v h4) : sSl2 f lo hi τ h = .ok v h4 := by
  unfold sSl2
  rw [e, bind_ok, e1, bind_ok, e2, bind_ok, e3]
def things (l : List Nat) : List D := [.non, .bl true, .bl false, .int 0, .int 7, .int 10000000000000000000000000000000000000000, .rol [], .rol [.str (S [97])], .tup [], .tup [.str (S [97])], .rod [] [], .rol [.str (S l)], .tup [.str (S l)], .rol (ones l), .tup (ones l)]
theorem ones_clo (n : Nat) (l : List Nat) : clos n (ones l) := clos_map fun c _ => clo_str _
theorem s1_clo (n : Nat) (x : Str) : clos n [.str x] := clos_cons (clo_str _) clos_nil
theorem things_ok (l : List Nat) : ∀ d ∈ things l, Pln d ∧ txt T d = false := by
  intro d hd
  simp only [things, List.mem_cons, List.not_mem_nil, or_false] at hd
  rcases hd with rfl | rfl | rfl | rfl | rfl | rfl | rfl | rfl | rfl | rfl | rfl | rfl | rfl | rfl | rfl <;> refine ⟨?_, rfl⟩ <;> first | exact trivial | exact s1_clo _ _ | exact ones_clo _ _ | exact clos_nil
theorem p40 (h : Hd) : gPow (.int 10) (.int 40) h = .ok (.int 10000000000000000000000000000000000000000) h := (pow_i ⟨by decide, by decide, by decide⟩).trans (by rw [show (10 : Int) ^ (40 : Int).toNat = 10000000000000000000000000000000000000000 from by decide +kernel])
theorem signs_S (l : List Nat) : signsD (S l) = ones l := by unfold signsD; rw [S_cps]
def oth (tg : List Nat) : List Nat := sig.filter (fun c => !decide (c ∈ tg)) ++ [9]
theorem filt_map (tg : List Nat) : ∀ l : List Nat, (l.filterMap fun c => if (!decide (c ∈ tg)) = true then some (D.str (S [c])) else none) = ones (l.filter fun c => !decide (c ∈ tg))
  | [] => rfl
  | c :: l => by
    have ih := filt_map tg l
    by_cases h : c ∈ tg
    · rw [List.filterMap_cons_none (by rw [decide_eq_true h]; rfl), List.filter_cons_of_neg (by simp [h]), ih]
    · rw [List.filterMap_cons_some (b := D.str (S [c])) (by rw [decide_eq_false h]; rfl), List.filter_cons_of_pos (by simp [h]), ih]
      rfl
theorem not_in (c : Nat) (t : List Nat) (h : Hd) : gIn true (.str (S [c])) (.str (S t)) h = .ok (.bl (!decide (c ∈ t))) h := by
  show R.ok (D.bl (!decide (c ∈ (S t).cps.toList))) h = _
  rw [S_cps]
theorem oth_not {tg : List Nat} (ht : ∀ c ∈ tg, c ∈ sig) : ∀ c ∈ oth tg, c ∉ tg := by
  intro c hc
  rcases List.mem_append.mp hc with h | h
  · have := (List.mem_filter.mp h).2
    simpa using this
  · rw [List.mem_singleton] at h
    subst h
    intro z
    exact absurd (ht _ z) (by decide +kernel)
theorem txt_not {l : List Nat} {c : Nat} (hc : c ∈ l) (hn : c ∉ T.tg) : txt T (.str (S l)) = false := by
  rw [txt_S]
  unfold inT
  rw [List.all_eq_false]
  exact ⟨c, hc, by simpa using hn⟩
noncomputable def F_law_bad : SF := bodyR (b_law_bad F_law_signs) 7
theorem bad_ok (h : T.Ok) {l : List Nat} {k w : Nat} (ll : l.length ≤ 240) : ∃ d, Pln d ∧ txt T d = false ∧ Pu F_law_bad 4 [.str (S T.tg), .str (S l), natD k, natD w] d := by
  have args : ∀ x ∈ [D.str (S T.tg), .str (S l), natD k, natD w], MI.clo 0 x := by
    intro x hx
    simp only [List.mem_cons, List.not_mem_nil, or_false] at hx
    rcases hx with rfl | rfl | rfl | rfl <;> first | exact clo_str _ | exact clo_int _
  have ck : ∀ d ∈ things l, MI.clo 0 d := fun d hd => (things_ok (T := T) l d hd).1.clo
  have fin : ∀ d, Pln d → txt T d = false → toR (b_law_bad F_law_signs [some (.str (S T.tg)), some (.str (S l)), some (natD k), some (natD w), none, none, none] []) = .ok d [] → ∃ d, Pln d ∧ txt T d = false ∧ Pu F_law_bad 4 [.str (S T.tg), .str (S l), natD k, natD w] d := fun d p t e =>
    ⟨d, p, t, Pu.of rfl args (r := .ok d []) (by unfold F_law_bad; rw [body_toR]; exact e) (frzR_clo p.clo (by simp)) p.clo⟩
  have zl : ∀ τ : Sd, sZ (sA gLst sNil) τ [] = .ok (.rol []) [] := fun τ => z_lst (xs := []) rfl clos_nil (by simp)
  have z1 : ∀ (τ : Sd) (f : SE) (d : D), MI.clo 0 d → f τ [] = .ok d [] → sZ (sA gLst (sCons f sNil)) τ [] = .ok (.rol [d]) [] := fun τ f d cd e => z_lst (xs := [d]) (a1of e rfl) (clos_cons cd clos_nil) (by simp)
  have lz : (S l).length ≤ LINE := by rw [S_len]; exact lineOk (by omega)
  have gl : gList [.str (S l)] [] = .ok (.ref 0) [.lst (ones l)] := by
    show (if (S l).length ≤ LINE then R.ok (D.ref 0) [O.lst (signsD (S l))] else .no) = _
    rw [if_pos lz, signs_S]
  have gt : gTuple [.str (S l)] [] = .ok (.tup (ones l)) [] := by
    show (if (S l).length ≤ LINE then R.ok (D.tup (signsD (S l))) [] else .no) = _
    rw [if_pos lz, signs_S]
  have cz : ∀ τ : Sd, τ[1]? = some (some (.str (S l))) → sZ (sA gLst (sCons (sC .non) (sCons (sC (.bl true)) (sCons (sC (.bl false)) (sCons (sC (.int 0)) (sCons (sC (.int 7)) (sCons (s2 gPow (sC (.int 10)) (sC (.int 40))) (sCons (sZ (sA gLst sNil)) (sCons (sZ (sA gLst (sCons (sC (.str "a")) sNil))) (sCons (sA gTup sNil) (sCons (sA gTup (sCons (sC (.str "a")) sNil)) (sCons (sZ sDNew) (sCons (sZ (sA gLst (sCons (sV 1) sNil))) (sCons (sA gTup (sCons (sV 1) sNil)) (sCons (sZ (sA gList (sCons (sV 1) sNil))) (sCons (sA gTuple (sCons (sV 1) sNil)) sNil)))))))))))))))) τ [] = .ok (.rol (things l)) [] := fun τ h1 => by
    refine z_lst (xs := things l) ?_ (clos_iff.mpr ck) (by simp)
    have ar := consof (τ := τ) (c_ok .non τ []) (consof (c_ok (.bl true) τ []) (consof (c_ok (.bl false) τ []) (consof (c_ok (.int 0) τ []) (consof (c_ok (.int 7) τ []) (consof (s2of (c_ok (.int 10) τ []) (c_ok (.int 40) τ []) (p40 [])) (consof (zl τ) (consof (z1 τ _ (.str "a") (clo_str _) (c_ok _ _ _)) (consof (a0of EVX.tup0) (consof (a1of (c_ok (.str "a") τ []) EVX.tup1) (consof (EVX.z_dnew (τ := τ)) (consof (z1 τ _ _ (clo_str _) (v_at h1)) (consof (a1of (v_at h1) EVX.tup1) (consof (z_lst (a1of (v_at h1) gl) (ones_clo _ l) (by simp)) (consof (a1of (v_at h1) gt) (show sNil τ [] = .ok [] [] from rfl)))))))))))))))
    rw [aXof ar]
    rfl
  by_cases hk : k < 15
  · have hk' : k < (things l).length := hk
    obtain ⟨p, t⟩ := things_ok (T := T) l _ (List.getElem_mem hk')
    refine fin _ p t ?_
    unfold b_law_bad
    refine Eq.trans (congrArg toR (setof (cz _ rfl))) ?_
    exact congrArg toR (seqrt (Eq.trans (ifT (tof (s2of (v_at rfl) (a1of (v_at rfl) len_rol) (lt_t (show (k : Int) < ((15 : Nat) : Int) by omega))))) (retof (s2of (v_at rfl) (v_at rfl) (ix_r (List.getElem?_eq_getElem hk'))))))
  · have rl : 0 < (oth T.tg).length := by unfold oth; simp
    have rl2 : (oth T.tg).length ≤ 96 := by
      unfold oth
      have := List.length_filter_le (fun c => !decide (c ∈ T.tg)) sig
      rw [sig_len] at this
      rw [List.length_append, List.length_singleton]
      omega
    have hi : w / 241 % (oth T.tg).length < (oth T.tg).length := Nat.mod_lt _ rl
    have nx := oth_not h.tong.sub _ (List.getElem_mem hi)
    have ex : (oth T.tg)[w / 241 % (oth T.tg).length]? = some (oth T.tg)[w / 241 % (oth T.tg).length] := List.getElem?_eq_getElem hi
    generalize (oth T.tg)[w / 241 % (oth T.tg).length] = c at nx ex
    have pl : (l.take (w % (l.length + 1)) ++ [c] ++ l.drop (w % (l.length + 1))).length ≤ 1000 := by
      simp only [List.length_append, List.length_take, List.length_drop, List.length_singleton]
      omega
    refine fin (.str (S (l.take (w % (l.length + 1)) ++ [c] ++ l.drop (w % (l.length + 1))))) (pln_S pl) (txt_not (c := c) (by simp) nx) ?_
    unfold b_law_bad
    refine Eq.trans (congrArg toR (setof (cz _ rfl))) ?_
    refine Eq.trans (congrArg toR (ifN (tof (s2of (v_at rfl) (a1of (v_at rfl) len_rol) (lt_f (show ¬ (k : Int) < ((15 : Nat) : Int) by omega)))))) ?_
    have cf : ∀ τ : Sd, τ[0]? = some (some (.str (S T.tg))) → sZ (sCompF (sIt (sA (sLoc false 0 F_law_signs) sNil)) t1 (b_law_bad_T1 F_law_signs) (b_law_bad_C0 F_law_signs) [0]) τ [] = .ok (.rol (ones (sig.filter fun c => !decide (c ∈ T.tg)))) [] := fun τ h0 => by
      rw [← filt_map]
      refine z_lst (comp_filt (fun c : Nat => D.str (S [c])) (fun c => if (!decide (c ∈ T.tg)) = true then some (D.str (S [c])) else none) sig (itof (a0of (signs_ok _)) (it_S sig _)) (lineOk (by rw [sig_len]; omega)) fun c _ => ?_) (by rw [filt_map]; exact ones_clo _ _) (by simp)
      rw [bindF_1, frs_cons, frs_nil, h0]
      have q : b_law_bad_T1 F_law_signs [some (.str (S [c])), some (.str (S T.tg))] [] = .ok (!decide (c ∈ T.tg)) [] := tof (s2of (v_at rfl) (v_at rfl) (not_in c T.tg []))
      show (b_law_bad_T1 F_law_signs [some (.str (S [c])), some (.str (S T.tg))] []).bind _ = _
      rw [q, bind_ok]
      by_cases hc : c ∈ T.tg
      · simp [hc]
      · simp only [hc, decide_false, Bool.not_false, if_true]
        rfl
    have zr : ∀ τ : Sd, τ[0]? = some (some (.str (S T.tg))) → sZ (s2 gAddR (sZ (sCompF (sIt (sA (sLoc false 0 F_law_signs) sNil)) t1 (b_law_bad_T1 F_law_signs) (b_law_bad_C0 F_law_signs) [0])) (sZ (sA gLst (sCons (sC (.str "\t")) sNil)))) τ [] = .ok (.rol (ones (oth T.tg))) [] := fun τ h0 => by
      refine z_lst (xs := ones (oth T.tg)) (s2of (cf τ h0) (z1 τ _ (.str "\t") (clo_str _) (c_ok _ _ _)) ?_) (ones_clo _ _) (by simp)
      have lf := List.length_filter_le (fun c => !decide (c ∈ T.tg)) sig
      rw [sig_len] at lf
      rw [gAddR_l (xs := ones (sig.filter fun c => !decide (c ∈ T.tg))) (ys := [.str "\t"]) rfl rfl, if_pos (lineOk (by rw [List.length_map]; simp only [List.length_singleton]; omega))]
      unfold oth ones
      rw [List.map_append]
      rfl
    refine Eq.trans (congrArg toR (setof (zr _ rfl))) ?_
    have ln : gLen [.str (S l)] [] = .ok (natD l.length) [] := len_S (lineOk (by omega))
    have md : gMod (natD w) (.int ((l.length : Int) + 1)) [] = .ok (natD (w % (l.length + 1))) [] := by
      have := mod_ii (x := (w : Int)) (y := ((l.length + 1 : Nat) : Int)) (h := []) (by omega)
      rwa [← Int.natCast_emod] at this
    refine Eq.trans (congrArg toR (setof (s2of (v_at rfl) (s2of (a1of (v_at rfl) ln) (c_ok _ _ _) add_ii) md))) ?_
    have lr : gLen [.rol (ones (oth T.tg))] [] = .ok (natD (oth T.tg).length) [] := by rw [len_rol, List.length_map]
    have dv : gDiv (natD w) (.int 241) [] = .ok (natD (w / 241)) [] := by
      have := div_ii (x := (w : Int)) (y := 241) (h := []) (by omega)
      exact this
    have md2 : gMod (natD (w / 241)) (natD (oth T.tg).length) [] = .ok (natD (w / 241 % (oth T.tg).length)) [] := by
      have := mod_ii (x := ((w / 241 : Nat) : Int)) (y := ((oth T.tg).length : Nat)) (h := []) (by omega)
      rwa [← Int.natCast_emod] at this
    have ix : gIx (.rol (ones (oth T.tg))) (natD (w / 241 % (oth T.tg).length)) [] = .ok (.str (S [c])) [] := ix_r (by rw [List.getElem?_map, ex]; rfl)
    exact congrArg toR (retof (s2of (s2of (slof' (v_at rfl) rfl (oSof' (v_at rfl)) (to_S (w % (l.length + 1)) (lineOk (by omega)))) (s2of (v_at rfl) (s2of (s2of (v_at rfl) (c_ok _ _ _) dv) (a1of (v_at rfl) lr) md2) ix) (add_S (lineOk (by simp only [List.length_take, List.length_singleton]; omega)))) (slof' (v_at rfl) (oSof' (v_at rfl)) rfl (from_S (w % (l.length + 1)) (lineOk (by omega)))) (add_S (lineOk (by simp only [List.length_append, List.length_take, List.length_drop, List.length_singleton]; omega)))))
noncomputable def F_law : SF := bodyR (b_law F_law_bad F_law_hand F_law_refused F_law_right F_law_table F_law_take F_law_text) 10
theorem law_ok (ns : List Int) : ∃ h', F_law [.scr (ns.map D.int)] [] = .ok (.bl true) h' := by
  obtain ⟨o, P, e0⟩ := hand_ok ns []
  obtain ⟨k, o1, e1, k0, k1, P1⟩ := take_ok (m := 30) P (by omega) (by omega) (by omega)
  obtain ⟨w, o2, e2, w0, w1, P2⟩ := take_ok (m := 1000003) P1 (by omega) (by omega) (by omega)
  obtain ⟨k, rfl⟩ := Int.eq_ofNat_of_zero_le k0
  obtain ⟨w, rfl⟩ := Int.eq_ofNat_of_zero_le w0
  obtain ⟨T, o3, hT, e3, P3⟩ := table_ok P2 (by omega)
  obtain ⟨l, o4, ll, lt, e4, P4⟩ := text_ok P3 (by omega) hT.tong.lo hT.tong.hi
  obtain ⟨U, o5, hU, e5, P5⟩ := table_ok P4 (by omega)
  obtain ⟨m, o6, ml, mt, e6, P6⟩ := text_ok P5 (by omega) hU.tong.lo hU.tong.hi
  obtain ⟨d, pd, td, ed⟩ := bad_ok hT (l := l) (k := k) (w := w) ll
  have c1 : sLoc false 2 F_law_take [.ref 0, .int 30] [o] = .ok (natD k) [o1] := e1 0 _ rfl
  have c2 : sLoc false 2 F_law_take [.ref 0, .int 1000003] [o1] = .ok (natD w) [o2] := e2 0 _ rfl
  have c3 : sLoc false 1 F_law_table [.ref 0] [o2] = .ok T.d [o3] := e3 0 _ rfl
  have c4 : sLoc false 2 F_law_text [.ref 0, .str (S T.tg)] [o3] = .ok (.str (S l)) [o4] := e4 0 _ rfl
  have c5 : sLoc false 1 F_law_table [.ref 0] [o4] = .ok U.d [o5] := e5 0 _ rfl
  have c6 : sLoc false 2 F_law_text [.ref 0, .str (S U.tg)] [o5] = .ok (.str (S m)) [o6] := e6 0 _ rfl
  have rT : Pu F_law_right 2 [T.d, .str (S l)] (.bl true) := right_ok hT lt (by omega)
  have rU : Pu F_law_right 2 [U.d, .str (S m)] (.bl true) := right_ok hU mt (by omega)
  have rf : ∀ x : Int, Pu F_law_refused 3 [T.d, d, .int x] (.bl true) := fun x => refused_ok pd td
  refine ⟨[o6], ?_⟩
  unfold F_law
  rw [body_toR]
  show toR (b_law F_law_bad F_law_hand F_law_refused F_law_right F_law_table F_law_take F_law_text [some (.scr (ns.map D.int)), none, none, none, none, none, none, none, none, none] []) = _
  unfold b_law
  refine Eq.trans (congrArg toR (setof (a1of (v_at rfl) e0))) ?_
  refine Eq.trans (congrArg toR (setof (a2of (v_at rfl) (c_ok _ _ _) c1))) ?_
  refine Eq.trans (congrArg toR (setof (a2of (v_at rfl) (c_ok _ _ _) c2))) ?_
  refine Eq.trans (congrArg toR (setof (a1of (v_at rfl) c3))) ?_
  refine Eq.trans (congrArg toR (setof (a2of (v_at rfl) (s2of (v_at rfl) (c_ok _ _ _) (tg_ix _)) c4))) ?_
  refine Eq.trans (congrArg toR (setof (a1of (v_at rfl) c5))) ?_
  refine Eq.trans (congrArg toR (setof (a2of (v_at rfl) (s2of (v_at rfl) (c_ok _ _ _) (tg_ix _)) c6))) ?_
  refine Eq.trans (congrArg toR (setof (EVX.a4of (s2of (v_at rfl) (c_ok _ _ _) (tg_ix _)) (v_at rfl) (v_at rfl) (v_at rfl) (ed _)))) ?_
  refine Eq.trans (congrArg toR (ifN (orF (notT (truof (a2of (v_at rfl) (v_at rfl) (rT _)) (tru_bl _))) (orF (notT (truof (a2of (v_at rfl) (v_at rfl) (rU _)) (tru_bl _))) (notT (truof (a2of (v_at rfl) (v_at rfl) (rT _)) (tru_bl _))))))) ?_
  have cl6 : ∀ x ∈ [o6], cloO 1 x := by intro x hx; rw [List.mem_singleton] at hx; subst hx; exact cloO_up (by omega) P6.clo
  have i3 : ∀ τ : Sd, τ[3]? = some (some (natD w)) → sIt (sZ (sA gLst (sCons (sC (.int 0)) (sCons (sC (.int 1)) (sCons (s2 gMod (sV 3) (sC (.int 2))) sNil))))) τ [o6] = .ok ⟨[(0 : Int), 1, (w : Int) % 2].map D.int, fun _ => True⟩ [o6] := fun τ h3 =>
    itof (z_lst (xs := [.int 0, .int 1, .int ((w : Int) % 2)]) (a3of (c_ok _ _ _) (c_ok _ _ _) (s2of (v_at h3) (c_ok _ _ _) (mod_ii (by omega))) rfl) (clos_cons (clo_int _) (clos_cons (clo_int _) (clos_cons (clo_int _) clos_nil))) cl6) rfl
  refine Eq.trans (congrArg toR (forof (i3 _ rfl))) ?_
  have lp := forT_all (g := kN 9) (b := b_law_L0 F_law_bad F_law_hand F_law_refused F_law_right F_law_table F_law_take F_law_text) D.int
    (fun pre τ hh => ∃ t9 : Option D, τ = [some (.scr (ns.map D.int)), some (.ref 0), some (natD k), some (natD w), some T.d, some (.str (S l)), some U.d, some (.str (S m)), some d, t9] ∧ hh = [o6])
    [(0 : Int), 1, (w : Int) % 2] [some (.scr (ns.map D.int)), some (.ref 0), some (natD k), some (natD w), some T.d, some (.str (S l)), some U.d, some (.str (S m)), some d, none] [o6] ?_ ⟨none, rfl, rfl⟩
  · obtain ⟨τ', h', e, t9, rfl, rfl⟩ := lp
    refine Eq.trans (congrArg (fun z => toR (MI.thn z _)) e) ?_
    rw [thn_nx]
    exact congrArg toR (retof (a2of (v_at rfl) (v_at rfl) (rT _)))
  · rintro pre x post τ hh all ⟨t9, rfl, rfl⟩
    refine ⟨_, _, rfl, [some (.scr (ns.map D.int)), some (.ref 0), some (natD k), some (natD w), some T.d, some (.str (S l)), some U.d, some (.str (S m)), some d, some (.int x)], [o6], ?_, _, rfl, rfl⟩
    unfold b_law_L0
    exact Eq.trans (ifF (notT (truof (a3of (v_at rfl) (v_at rfl) (v_at rfl) (rf x _)) (tru_bl _)))) rfl
end
end K21
set_option Elab.async false
set_option linter.all false
set_option maxRecDepth 100000
set_option maxHeartbeats 4000000
namespace L2
open PySem PySem.Spec PySem.W PyProof.Rows
theorem xcls_of {K : Frag} {C : Addr} (q : excIn K C [.type "ValueError", .type "Exception", .type "BaseException", .type "object"] "ValueError.__new__" = true) : XCls K C := by
  unfold excIn at q
  split at q
  · rename_i dd cd sl lo
    split at q
    · rename_i C' bm k0 k1 k2 k3 n k5 mo ss
      simp only [Bool.and_eq_true, beq_iff_eq, Bool.not_eq_true'] at q
      obtain ⟨⟨⟨⟨⟨e1, e2⟩, nd⟩, tl⟩, no⟩, ni⟩ := q
      subst e1 e2
      cases cd
      dsimp only at mo nd no ni
      subst mo nd
      obtain ⟨l⟩ := sl
      simp only at ss
      subst ss
      exact ⟨_, _, _, _, bm, _, _, _, _, _, dd, k0, k1, k2, k3, k5, lo, no, ni, tl⟩
    · cases q
  · cases q
end L2
set_option Elab.async false
set_option linter.all false
set_option maxRecDepth 100000
set_option maxHeartbeats 4000000
namespace K21
open PySem PySem.Spec L2 MI
section
variable {P : Program} {w : World} {K : PySem.W.Frag} {mg : Str → Option Value} {base : Heap} {f : Addr} {fd : FuncData}
theorem d_0 {f_0 : Addr} {e_0 : FuncData} (Fu_0 : Fun K "is_text" "is_text" (top 8) f_0 e_0) (mk_0 : mg "is_text" = some (.ref f_0)) (kp_0 : PySem.W.keepIn K (.ref f_0) = true) (bd_0 : Binds K e_0 ["tongue", "thing"] []) (M : Nm mg) : Dn P w K mg base (1) "is_text" ["tongue", "thing"] (spOf K 2 (K21.F_is_text)) f_0 e_0 :=
  ⟨def_fn Fu_0 sc_0 (m_0 M), mk_0, kp_0, bd_0⟩
theorem d_1 {f_1 : Addr} {e_1 : FuncData} (Fu_1 : Fun K "looked_text" "looked_text" (top 10) f_1 e_1) (mk_1 : mg "looked_text" = some (.ref f_1)) (kp_1 : PySem.W.keepIn K (.ref f_1) = true) (bd_1 : Binds K e_1 ["tongue", "thing"] []) {y_NoText y_ReachError y_Closed y_NoBook y_NoTable y_NoWord : Addr} (Z : Xn K mg y_NoText y_ReachError y_Closed y_NoBook y_NoTable y_NoWord) {a_0 : Addr} {d_0 : FuncData} (D_0 : Dn P w K mg base 1 "is_text" ["tongue", "thing"] (spOf K 2 (K21.F_is_text)) a_0 d_0) : DnX P w K mg base (2) "looked_text" ["tongue", "thing"] (spX K mg 2 (K21.F_looked_text)) f_1 e_1 :=
  ⟨def_fnX Fu_1 sc_1 (m_1 Z D_0 (by decide)), mk_1, kp_1, bd_1⟩
theorem d_5 {f_5 : Addr} {e_5 : FuncData} (Fu_5 : Fun K "rooms_along" "rooms_along" (top 14) f_5 e_5) (mk_5 : mg "rooms_along" = some (.ref f_5)) (kp_5 : PySem.W.keepIn K (.ref f_5) = true) (bd_5 : Binds K e_5 ["table", "room", "word"] [])  : Dn P w K mg base (1) "rooms_along" ["table", "room", "word"] (spOf K 3 (K21.F_rooms_along)) f_5 e_5 :=
  ⟨def_fn Fu_5 sc_5 (m_5 ), mk_5, kp_5, bd_5⟩
theorem d_4 {f_4 : Addr} {e_4 : FuncData} (Fu_4 : Fun K "room_from" "room_from" (top 13) f_4 e_4) (mk_4 : mg "room_from" = some (.ref f_4)) (kp_4 : PySem.W.keepIn K (.ref f_4) = true) (bd_4 : Binds K e_4 ["table", "room", "word"] []) {a_5 : Addr} {d_5 : FuncData} (D_5 : Dn P w K mg base 1 "rooms_along" ["table", "room", "word"] (spOf K 3 (K21.F_rooms_along)) a_5 d_5) : Dn P w K mg base (2) "room_from" ["table", "room", "word"] (spOf K 3 (K21.F_room_from)) f_4 e_4 :=
  ⟨def_fn Fu_4 sc_4 (m_4 D_5 (by decide)), mk_4, kp_4, bd_4⟩
theorem d_2 {f_2 : Addr} {e_2 : FuncData} (Fu_2 : Fun K "room_of" "room_of" (top 11) f_2 e_2) (mk_2 : mg "room_of" = some (.ref f_2)) (kp_2 : PySem.W.keepIn K (.ref f_2) = true) (bd_2 : Binds K e_2 ["table", "word"] []) {a_1 : Addr} {d_1 : FuncData} (D_1 : DnX P w K mg base 2 "looked_text" ["tongue", "thing"] (spX K mg 2 (K21.F_looked_text)) a_1 d_1) {a_4 : Addr} {d_4 : FuncData} (D_4 : Dn P w K mg base 2 "room_from" ["table", "room", "word"] (spOf K 3 (K21.F_room_from)) a_4 d_4) : DnX P w K mg base (3) "room_of" ["table", "word"] (spX K mg 2 (K21.F_room_of)) f_2 e_2 :=
  ⟨def_fnX Fu_2 sc_2 (m_2 D_1 (by decide) D_4 (by decide)), mk_2, kp_2, bd_2⟩
theorem d_3 {f_3 : Addr} {e_3 : FuncData} (Fu_3 : Fun K "kind_of" "kind_of" (top 12) f_3 e_3) (mk_3 : mg "kind_of" = some (.ref f_3)) (kp_3 : PySem.W.keepIn K (.ref f_3) = true) (bd_3 : Binds K e_3 ["table", "word"] []) {a_2 : Addr} {d_2 : FuncData} (D_2 : DnX P w K mg base 3 "room_of" ["table", "word"] (spX K mg 2 (K21.F_room_of)) a_2 d_2) : DnX P w K mg base (4) "kind_of" ["table", "word"] (spX K mg 2 (K21.F_kind_of)) f_3 e_3 :=
  ⟨def_fnX Fu_3 sc_3 (m_3 D_2 (by decide)), mk_3, kp_3, bd_3⟩
theorem d_6 {f_6 : Addr} {e_6 : FuncData} (Fu_6 : Fun K "_law_hand" "_law_hand" (top 16) f_6 e_6) (mk_6 : mg "_law_hand" = some (.ref f_6)) (kp_6 : PySem.W.keepIn K (.ref f_6) = true) (bd_6 : Binds K e_6 ["_law_script"] []) (M : Nm mg) : Dn P w K mg base (1) "_law_hand" ["_law_script"] (spOf K 1 (HND.F_law_hand)) f_6 e_6 :=
  ⟨def_fn Fu_6 sc_6 (m_6 M), mk_6, kp_6, bd_6⟩
theorem d_7 {f_7 : Addr} {e_7 : FuncData} (Fu_7 : Fun K "_law_take" "_law_take" (top 17) f_7 e_7) (mk_7 : mg "_law_take" = some (.ref f_7)) (kp_7 : PySem.W.keepIn K (.ref f_7) = true) (bd_7 : Binds K e_7 ["_law_hand_here", "_law_many"] []) (M : Nm mg) : Dn P w K mg base (1) "_law_take" ["_law_hand_here", "_law_many"] (spOf K 2 (HND.F_law_take)) f_7 e_7 :=
  ⟨def_fn Fu_7 sc_7 (m_7 M), mk_7, kp_7, bd_7⟩
theorem d_8 {f_8 : Addr} {e_8 : FuncData} (Fu_8 : Fun K "_law_signs" "_law_signs" (top 18) f_8 e_8) (mk_8 : mg "_law_signs" = some (.ref f_8)) (kp_8 : PySem.W.keepIn K (.ref f_8) = true) (bd_8 : Binds K e_8 [] [])  : Dn P w K mg base (1) "_law_signs" [] (spOf K 0 (K21.F_law_signs)) f_8 e_8 :=
  ⟨def_fn Fu_8 sc_8 (m_8 ), mk_8, kp_8, bd_8⟩
theorem d_9 {f_9 : Addr} {e_9 : FuncData} (Fu_9 : Fun K "_law_tongue" "_law_tongue" (top 19) f_9 e_9) (mk_9 : mg "_law_tongue" = some (.ref f_9)) (kp_9 : PySem.W.keepIn K (.ref f_9) = true) (bd_9 : Binds K e_9 ["_law_hand_here"] []) (M : Nm mg) {a_8 : Addr} {d_8 : FuncData} (D_8 : Dn P w K mg base 1 "_law_signs" [] (spOf K 0 (K21.F_law_signs)) a_8 d_8) {a_7 : Addr} {d_7 : FuncData} (D_7 : Dn P w K mg base 1 "_law_take" ["_law_hand_here", "_law_many"] (spOf K 2 (HND.F_law_take)) a_7 d_7) : Dn P w K mg base (2) "_law_tongue" ["_law_hand_here"] (spOf K 1 (K21.F_law_tongue)) f_9 e_9 :=
  ⟨def_fn Fu_9 sc_9 (m_9 M D_8 (by decide) D_7 (by decide)), mk_9, kp_9, bd_9⟩
theorem d_10 {f_10 : Addr} {e_10 : FuncData} (Fu_10 : Fun K "_law_goes" "_law_goes" (top 20) f_10 e_10) (mk_10 : mg "_law_goes" = some (.ref f_10)) (kp_10 : PySem.W.keepIn K (.ref f_10) = true) (bd_10 : Binds K e_10 ["_law_hand_here", "_law_size", "_law_rooms"] []) (M : Nm mg) {a_7 : Addr} {d_7 : FuncData} (D_7 : Dn P w K mg base 1 "_law_take" ["_law_hand_here", "_law_many"] (spOf K 2 (HND.F_law_take)) a_7 d_7) : Dn P w K mg base (2) "_law_goes" ["_law_hand_here", "_law_size", "_law_rooms"] (spOf K 3 (HND.F_law_goes)) f_10 e_10 :=
  ⟨def_fn Fu_10 sc_10 (m_10 M D_7 (by decide)), mk_10, kp_10, bd_10⟩
theorem d_11 {f_11 : Addr} {e_11 : FuncData} (Fu_11 : Fun K "_law_kinds" "_law_kinds" (top 21) f_11 e_11) (mk_11 : mg "_law_kinds" = some (.ref f_11)) (kp_11 : PySem.W.keepIn K (.ref f_11) = true) (bd_11 : Binds K e_11 ["_law_hand_here", "_law_rooms"] []) (M : Nm mg) {a_7 : Addr} {d_7 : FuncData} (D_7 : Dn P w K mg base 1 "_law_take" ["_law_hand_here", "_law_many"] (spOf K 2 (HND.F_law_take)) a_7 d_7) : Dn P w K mg base (2) "_law_kinds" ["_law_hand_here", "_law_rooms"] (spOf K 2 (HND.F_law_kinds)) f_11 e_11 :=
  ⟨def_fn Fu_11 sc_11 (m_11 M D_7 (by decide)), mk_11, kp_11, bd_11⟩
theorem d_12 {f_12 : Addr} {e_12 : FuncData} (Fu_12 : Fun K "_law_shuffled" "_law_shuffled" (top 22) f_12 e_12) (mk_12 : mg "_law_shuffled" = some (.ref f_12)) (kp_12 : PySem.W.keepIn K (.ref f_12) = true) (bd_12 : Binds K e_12 ["_law_hand_here", "_law_goes_here", "_law_kinds_here"] []) (M : Nm mg) {a_7 : Addr} {d_7 : FuncData} (D_7 : Dn P w K mg base 1 "_law_take" ["_law_hand_here", "_law_many"] (spOf K 2 (HND.F_law_take)) a_7 d_7) : Dn P w K mg base (2) "_law_shuffled" ["_law_hand_here", "_law_goes_here", "_law_kinds_here"] (spOf K 3 (HND.F_law_shuffled)) f_12 e_12 :=
  ⟨def_fn Fu_12 sc_12 (m_12 M D_7 (by decide)), mk_12, kp_12, bd_12⟩
theorem d_13 {f_13 : Addr} {e_13 : FuncData} (Fu_13 : Fun K "_law_table" "_law_table" (top 23) f_13 e_13) (mk_13 : mg "_law_table" = some (.ref f_13)) (kp_13 : PySem.W.keepIn K (.ref f_13) = true) (bd_13 : Binds K e_13 ["_law_hand_here"] []) (M : Nm mg) {a_10 : Addr} {d_10 : FuncData} (D_10 : Dn P w K mg base 2 "_law_goes" ["_law_hand_here", "_law_size", "_law_rooms"] (spOf K 3 (HND.F_law_goes)) a_10 d_10) {a_11 : Addr} {d_11 : FuncData} (D_11 : Dn P w K mg base 2 "_law_kinds" ["_law_hand_here", "_law_rooms"] (spOf K 2 (HND.F_law_kinds)) a_11 d_11) {a_12 : Addr} {d_12 : FuncData} (D_12 : Dn P w K mg base 2 "_law_shuffled" ["_law_hand_here", "_law_goes_here", "_law_kinds_here"] (spOf K 3 (HND.F_law_shuffled)) a_12 d_12) {a_7 : Addr} {d_7 : FuncData} (D_7 : Dn P w K mg base 1 "_law_take" ["_law_hand_here", "_law_many"] (spOf K 2 (HND.F_law_take)) a_7 d_7) {a_9 : Addr} {d_9 : FuncData} (D_9 : Dn P w K mg base 2 "_law_tongue" ["_law_hand_here"] (spOf K 1 (K21.F_law_tongue)) a_9 d_9) : Dn P w K mg base (3) "_law_table" ["_law_hand_here"] (spOf K 1 (K21.F_law_table)) f_13 e_13 :=
  ⟨def_fn Fu_13 sc_13 (m_13 M D_10 (by decide) D_11 (by decide) D_12 (by decide) D_7 (by decide) D_9 (by decide)), mk_13, kp_13, bd_13⟩
theorem d_14 {f_14 : Addr} {e_14 : FuncData} (Fu_14 : Fun K "_law_number" "_law_number" (top 24) f_14 e_14) (mk_14 : mg "_law_number" = some (.ref f_14)) (kp_14 : PySem.W.keepIn K (.ref f_14) = true) (bd_14 : Binds K e_14 ["_law_thing", "_law_low", "_law_high"] []) (M : Nm mg) : Dn P w K mg base (1) "_law_number" ["_law_thing", "_law_low", "_law_high"] (spOf K 3 (K21.F_law_number)) f_14 e_14 :=
  ⟨def_fn Fu_14 sc_14 (m_14 M), mk_14, kp_14, bd_14⟩
theorem d_15 {f_15 : Addr} {e_15 : FuncData} (Fu_15 : Fun K "_law_led" "_law_led" (top 25) f_15 e_15) (mk_15 : mg "_law_led" = some (.ref f_15)) (kp_15 : PySem.W.keepIn K (.ref f_15) = true) (bd_15 : Binds K e_15 ["_law_table_here", "_law_room", "_law_word"] [])  : Dn P w K mg base (1) "_law_led" ["_law_table_here", "_law_room", "_law_word"] (spOf K 3 (K21.F_law_led)) f_15 e_15 :=
  ⟨def_fn Fu_15 sc_15 (m_15 ), mk_15, kp_15, bd_15⟩
theorem d_16 {f_16 : Addr} {e_16 : FuncData} (Fu_16 : Fun K "_law_text" "_law_text" (top 26) f_16 e_16) (mk_16 : mg "_law_text" = some (.ref f_16)) (kp_16 : PySem.W.keepIn K (.ref f_16) = true) (bd_16 : Binds K e_16 ["_law_hand_here", "_law_tongue_here"] []) (M : Nm mg) {a_7 : Addr} {d_7 : FuncData} (D_7 : Dn P w K mg base 1 "_law_take" ["_law_hand_here", "_law_many"] (spOf K 2 (HND.F_law_take)) a_7 d_7) : Dn P w K mg base (2) "_law_text" ["_law_hand_here", "_law_tongue_here"] (spOf K 2 (K21.F_law_text)) f_16 e_16 :=
  ⟨def_fn Fu_16 sc_16 (m_16 M D_7 (by decide)), mk_16, kp_16, bd_16⟩
theorem d_17 {f_17 : Addr} {e_17 : FuncData} (Fu_17 : Fun K "_law_bad" "_law_bad" (top 27) f_17 e_17) (mk_17 : mg "_law_bad" = some (.ref f_17)) (kp_17 : PySem.W.keepIn K (.ref f_17) = true) (bd_17 : Binds K e_17 ["_law_tongue_here", "_law_text_here", "_law_which", "_law_where"] []) (M : Nm mg) {a_8 : Addr} {d_8 : FuncData} (D_8 : Dn P w K mg base 1 "_law_signs" [] (spOf K 0 (K21.F_law_signs)) a_8 d_8) : Dn P w K mg base (2) "_law_bad" ["_law_tongue_here", "_law_text_here", "_law_which", "_law_where"] (spOf K 4 (K21.F_law_bad)) f_17 e_17 :=
  ⟨def_fn Fu_17 sc_17 (m_17 M D_8 (by decide)), mk_17, kp_17, bd_17⟩
theorem d_18 {f_18 : Addr} {e_18 : FuncData} (Fu_18 : Fun K "_law_right" "_law_right" (top 28) f_18 e_18) (mk_18 : mg "_law_right" = some (.ref f_18)) (kp_18 : PySem.W.keepIn K (.ref f_18) = true) (bd_18 : Binds K e_18 ["_law_table_here", "_law_text_here"] []) {a_15 : Addr} {d_15 : FuncData} (D_15 : Dn P w K mg base 1 "_law_led" ["_law_table_here", "_law_room", "_law_word"] (spOf K 3 (K21.F_law_led)) a_15 d_15) {a_14 : Addr} {d_14 : FuncData} (D_14 : Dn P w K mg base 1 "_law_number" ["_law_thing", "_law_low", "_law_high"] (spOf K 3 (K21.F_law_number)) a_14 d_14) {a_3 : Addr} {d_3 : FuncData} (D_3 : DnX P w K mg base 4 "kind_of" ["table", "word"] (spX K mg 2 (K21.F_kind_of)) a_3 d_3) {a_2 : Addr} {d_2 : FuncData} (D_2 : DnX P w K mg base 3 "room_of" ["table", "word"] (spX K mg 2 (K21.F_room_of)) a_2 d_2) : Dn P w K mg base (5) "_law_right" ["_law_table_here", "_law_text_here"] (spOf K 2 (K21.F_law_right)) f_18 e_18 :=
  ⟨def_fn Fu_18 sc_18 (m_18 D_15 (by decide) D_14 (by decide) D_3 (by decide) D_2 (by decide)), mk_18, kp_18, bd_18⟩
theorem d_19 {f_19 : Addr} {e_19 : FuncData} (Fu_19 : Fun K "_law_refused" "_law_refused" (top 29) f_19 e_19) (mk_19 : mg "_law_refused" = some (.ref f_19)) (kp_19 : PySem.W.keepIn K (.ref f_19) = true) (bd_19 : Binds K e_19 ["_law_table_here", "_law_bad_here", "_law_whose"] []) (M : Nm mg) {y_NoText y_ReachError y_Closed y_NoBook y_NoTable y_NoWord : Addr} (Z : Xn K mg y_NoText y_ReachError y_Closed y_NoBook y_NoTable y_NoWord) {a_3 : Addr} {d_3 : FuncData} (D_3 : DnX P w K mg base 4 "kind_of" ["table", "word"] (spX K mg 2 (K21.F_kind_of)) a_3 d_3) {a_2 : Addr} {d_2 : FuncData} (D_2 : DnX P w K mg base 3 "room_of" ["table", "word"] (spX K mg 2 (K21.F_room_of)) a_2 d_2) : Dn P w K mg base (5) "_law_refused" ["_law_table_here", "_law_bad_here", "_law_whose"] (spOf K 3 (K21.F_law_refused)) f_19 e_19 :=
  ⟨def_fn Fu_19 sc_19 (m_19 M Z D_3 (by decide) D_2 (by decide)), mk_19, kp_19, bd_19⟩
theorem d_20 {f_20 : Addr} {e_20 : FuncData} (Fu_20 : Fun K "law" "law" (top 30) f_20 e_20) (mk_20 : mg "law" = some (.ref f_20)) (kp_20 : PySem.W.keepIn K (.ref f_20) = true) (bd_20 : Binds K e_20 ["_law_script"] []) {a_17 : Addr} {d_17 : FuncData} (D_17 : Dn P w K mg base 2 "_law_bad" ["_law_tongue_here", "_law_text_here", "_law_which", "_law_where"] (spOf K 4 (K21.F_law_bad)) a_17 d_17) {a_6 : Addr} {d_6 : FuncData} (D_6 : Dn P w K mg base 1 "_law_hand" ["_law_script"] (spOf K 1 (HND.F_law_hand)) a_6 d_6) {a_19 : Addr} {d_19 : FuncData} (D_19 : Dn P w K mg base 5 "_law_refused" ["_law_table_here", "_law_bad_here", "_law_whose"] (spOf K 3 (K21.F_law_refused)) a_19 d_19) {a_18 : Addr} {d_18 : FuncData} (D_18 : Dn P w K mg base 5 "_law_right" ["_law_table_here", "_law_text_here"] (spOf K 2 (K21.F_law_right)) a_18 d_18) {a_13 : Addr} {d_13 : FuncData} (D_13 : Dn P w K mg base 3 "_law_table" ["_law_hand_here"] (spOf K 1 (K21.F_law_table)) a_13 d_13) {a_7 : Addr} {d_7 : FuncData} (D_7 : Dn P w K mg base 1 "_law_take" ["_law_hand_here", "_law_many"] (spOf K 2 (HND.F_law_take)) a_7 d_7) {a_16 : Addr} {d_16 : FuncData} (D_16 : Dn P w K mg base 2 "_law_text" ["_law_hand_here", "_law_tongue_here"] (spOf K 2 (K21.F_law_text)) a_16 d_16) : Dn P w K mg base (6) "law" ["_law_script"] (spOf K 1 (K21.F_law)) f_20 e_20 :=
  ⟨def_fn Fu_20 sc_20 (m_20 D_17 (by decide) D_6 (by decide) D_19 (by decide) D_18 (by decide) D_13 (by decide) D_7 (by decide) D_16 (by decide)), mk_20, kp_20, bd_20⟩
end
def spLaw (K : PySem.W.Frag) : Sp := fun vs H Q _ => ∃ (a : Addr) (ns : List Int), vs = [.ref a] ∧ SqF K H a (ns.map V.int) ∧ ns.length ≤ 63 ∧ ∀ H', Q (.bl true) H'
theorem reps_ints {K : PySem.W.Frag} {ι : List Addr} {H : Hp} : ∀ ns : List Int, Reps K ι H (ns.map V.int) (ns.map D.int)
  | [] => .nil
  | n :: ns => .cons (.int n) (reps_ints ns)
theorem law_to {K : PySem.W.Frag} (vs : List V) (H : Hp) (Q : VK) (E : XK) (h : spLaw K vs H Q E) : spOf K 1 K21.F_law vs H Q E := by
  obtain ⟨a, ns, rfl, hS, hl, q⟩ := h
  obtain ⟨h', e⟩ := K21.law_ok ns
  refine ⟨rfl, [], [.scr (ns.map D.int)], [], .cons (.scr hS (reps_ints ns)) .nil, ⟨List.nodup_nil, rfl, fun i a o z => by simp at z⟩, ?_⟩
  rw [e]
  intro ι' H' b g r hr
  cases r
  exact q H'
theorem sqf_of {K : PySem.W.Frag} {H : Hp} {a : Addr} {vs : List V} (hO : Only H) (hS : SqL K H a vs) : SqF K H a vs := by
  rcases hS with r | r
  · rcases r with r | ⟨o, r⟩
    · rcases hO a with z | ⟨o, xs, z⟩ <;> rw [z] at r <;> cases r
    · exact .inl ⟨o, r⟩
  · exact .inr (.inr r)
theorem all_mk {l : PySem.W.OpenLaw} {w : World} {K : PySem.W.Frag} {h : Heap} {mg : Str → Option Value} {fa f1 f2 f3 f4 f5 f6 f7 f8 f9 f10 f11 f12 f13 f14 f15 f16 f17 f18 f19 f20 f21 : Addr} (X : K.In h) (G : h.Ns mainGlobals mg) (hfa : mg "law" = some (.ref fa))
    {od1 an1 od2 an2 od3 an3 od4 an4 od5 an5 od6 an6 od7 an7 od8 an8 od9 an9 od10 an10 od11 an11 od12 an12 od13 an13 od14 an14 od15 an15 od16 an16 od17 an17 od18 an18 od19 an19 od20 an20 od21 an21 : Option Addr} {sl1 sl2 sl3 sl4 sl5 sl6 sl7 sl8 sl9 sl10 sl11 sl12 sl13 sl14 sl15 sl16 sl17 sl18 sl19 sl20 sl21 : Array (Option Value)} {oc1 kV1 dc1 pm1 cd1 ct1 oc2 kV2 dc2 pm2 cd2 ct2 oc3 kV3 dc3 pm3 cd3 ct3 oc4 kV4 dc4 pm4 cd4 ct4 oc5 kV5 dc5 pm5 cd5 ct5 oc6 kV6 dc6 pm6 cd6 ct6 oc7 kV7 dc7 pm7 cd7 ct7 oc8 kV8 dc8 pm8 cd8 ct8 oc9 kV9 dc9 pm9 cd9 ct9 oc10 kV10 dc10 pm10 cd10 ct10 oc11 kV11 dc11 pm11 cd11 ct11 oc12 kV12 dc12 pm12 cd12 ct12 oc13 kV13 dc13 pm13 cd13 ct13 oc14 kV14 dc14 pm14 cd14 ct14 oc15 kV15 dc15 pm15 cd15 ct15 oc16 kV16 dc16 pm16 cd16 ct16 oc17 kV17 dc17 pm17 cd17 ct17 oc18 kV18 dc18 pm18 cd18 ct18 oc19 kV19 dc19 pm19 cd19 ct19 oc20 kV20 dc20 pm20 cd20 ct20 oc21 kV21 dc21 pm21 cd21 ct21 : Value}
    (a1 : PySem.W.nsIn K mainGlobals "is_text" = some (some (.ref f1))) (l1 : K.lookup f1 = some ⟨oc1, od1, .func (PySem.W.fnOf "is_text" "is_text" (defArgs (top 8)) (defBody (top 8)) (defScope (top 8)) .none kV1 dc1 pm1 an1 cd1 ct1), sl1⟩) (c1 : PySem.W.codeIn K cd1 "is_text" = true) (k1 : PySem.W.keepIn K (.ref f1) = true)
    (a2 : PySem.W.nsIn K mainGlobals "looked_text" = some (some (.ref f2))) (l2 : K.lookup f2 = some ⟨oc2, od2, .func (PySem.W.fnOf "looked_text" "looked_text" (defArgs (top 10)) (defBody (top 10)) (defScope (top 10)) .none kV2 dc2 pm2 an2 cd2 ct2), sl2⟩) (c2 : PySem.W.codeIn K cd2 "looked_text" = true) (k2 : PySem.W.keepIn K (.ref f2) = true)
    (a3 : PySem.W.nsIn K mainGlobals "room_of" = some (some (.ref f3))) (l3 : K.lookup f3 = some ⟨oc3, od3, .func (PySem.W.fnOf "room_of" "room_of" (defArgs (top 11)) (defBody (top 11)) (defScope (top 11)) .none kV3 dc3 pm3 an3 cd3 ct3), sl3⟩) (c3 : PySem.W.codeIn K cd3 "room_of" = true) (k3 : PySem.W.keepIn K (.ref f3) = true)
    (a4 : PySem.W.nsIn K mainGlobals "kind_of" = some (some (.ref f4))) (l4 : K.lookup f4 = some ⟨oc4, od4, .func (PySem.W.fnOf "kind_of" "kind_of" (defArgs (top 12)) (defBody (top 12)) (defScope (top 12)) .none kV4 dc4 pm4 an4 cd4 ct4), sl4⟩) (c4 : PySem.W.codeIn K cd4 "kind_of" = true) (k4 : PySem.W.keepIn K (.ref f4) = true)
    (a5 : PySem.W.nsIn K mainGlobals "room_from" = some (some (.ref f5))) (l5 : K.lookup f5 = some ⟨oc5, od5, .func (PySem.W.fnOf "room_from" "room_from" (defArgs (top 13)) (defBody (top 13)) (defScope (top 13)) .none kV5 dc5 pm5 an5 cd5 ct5), sl5⟩) (c5 : PySem.W.codeIn K cd5 "room_from" = true) (k5 : PySem.W.keepIn K (.ref f5) = true)
    (a6 : PySem.W.nsIn K mainGlobals "rooms_along" = some (some (.ref f6))) (l6 : K.lookup f6 = some ⟨oc6, od6, .func (PySem.W.fnOf "rooms_along" "rooms_along" (defArgs (top 14)) (defBody (top 14)) (defScope (top 14)) .none kV6 dc6 pm6 an6 cd6 ct6), sl6⟩) (c6 : PySem.W.codeIn K cd6 "rooms_along" = true) (k6 : PySem.W.keepIn K (.ref f6) = true)
    (a7 : PySem.W.nsIn K mainGlobals "_law_hand" = some (some (.ref f7))) (l7 : K.lookup f7 = some ⟨oc7, od7, .func (PySem.W.fnOf "_law_hand" "_law_hand" (defArgs (top 16)) (defBody (top 16)) (defScope (top 16)) .none kV7 dc7 pm7 an7 cd7 ct7), sl7⟩) (c7 : PySem.W.codeIn K cd7 "_law_hand" = true) (k7 : PySem.W.keepIn K (.ref f7) = true)
    (a8 : PySem.W.nsIn K mainGlobals "_law_take" = some (some (.ref f8))) (l8 : K.lookup f8 = some ⟨oc8, od8, .func (PySem.W.fnOf "_law_take" "_law_take" (defArgs (top 17)) (defBody (top 17)) (defScope (top 17)) .none kV8 dc8 pm8 an8 cd8 ct8), sl8⟩) (c8 : PySem.W.codeIn K cd8 "_law_take" = true) (k8 : PySem.W.keepIn K (.ref f8) = true)
    (a9 : PySem.W.nsIn K mainGlobals "_law_signs" = some (some (.ref f9))) (l9 : K.lookup f9 = some ⟨oc9, od9, .func (PySem.W.fnOf "_law_signs" "_law_signs" (defArgs (top 18)) (defBody (top 18)) (defScope (top 18)) .none kV9 dc9 pm9 an9 cd9 ct9), sl9⟩) (c9 : PySem.W.codeIn K cd9 "_law_signs" = true) (k9 : PySem.W.keepIn K (.ref f9) = true)
    (a10 : PySem.W.nsIn K mainGlobals "_law_tongue" = some (some (.ref f10))) (l10 : K.lookup f10 = some ⟨oc10, od10, .func (PySem.W.fnOf "_law_tongue" "_law_tongue" (defArgs (top 19)) (defBody (top 19)) (defScope (top 19)) .none kV10 dc10 pm10 an10 cd10 ct10), sl10⟩) (c10 : PySem.W.codeIn K cd10 "_law_tongue" = true) (k10 : PySem.W.keepIn K (.ref f10) = true)
    (a11 : PySem.W.nsIn K mainGlobals "_law_goes" = some (some (.ref f11))) (l11 : K.lookup f11 = some ⟨oc11, od11, .func (PySem.W.fnOf "_law_goes" "_law_goes" (defArgs (top 20)) (defBody (top 20)) (defScope (top 20)) .none kV11 dc11 pm11 an11 cd11 ct11), sl11⟩) (c11 : PySem.W.codeIn K cd11 "_law_goes" = true) (k11 : PySem.W.keepIn K (.ref f11) = true)
    (a12 : PySem.W.nsIn K mainGlobals "_law_kinds" = some (some (.ref f12))) (l12 : K.lookup f12 = some ⟨oc12, od12, .func (PySem.W.fnOf "_law_kinds" "_law_kinds" (defArgs (top 21)) (defBody (top 21)) (defScope (top 21)) .none kV12 dc12 pm12 an12 cd12 ct12), sl12⟩) (c12 : PySem.W.codeIn K cd12 "_law_kinds" = true) (k12 : PySem.W.keepIn K (.ref f12) = true)
    (a13 : PySem.W.nsIn K mainGlobals "_law_shuffled" = some (some (.ref f13))) (l13 : K.lookup f13 = some ⟨oc13, od13, .func (PySem.W.fnOf "_law_shuffled" "_law_shuffled" (defArgs (top 22)) (defBody (top 22)) (defScope (top 22)) .none kV13 dc13 pm13 an13 cd13 ct13), sl13⟩) (c13 : PySem.W.codeIn K cd13 "_law_shuffled" = true) (k13 : PySem.W.keepIn K (.ref f13) = true)
    (a14 : PySem.W.nsIn K mainGlobals "_law_table" = some (some (.ref f14))) (l14 : K.lookup f14 = some ⟨oc14, od14, .func (PySem.W.fnOf "_law_table" "_law_table" (defArgs (top 23)) (defBody (top 23)) (defScope (top 23)) .none kV14 dc14 pm14 an14 cd14 ct14), sl14⟩) (c14 : PySem.W.codeIn K cd14 "_law_table" = true) (k14 : PySem.W.keepIn K (.ref f14) = true)
    (a15 : PySem.W.nsIn K mainGlobals "_law_number" = some (some (.ref f15))) (l15 : K.lookup f15 = some ⟨oc15, od15, .func (PySem.W.fnOf "_law_number" "_law_number" (defArgs (top 24)) (defBody (top 24)) (defScope (top 24)) .none kV15 dc15 pm15 an15 cd15 ct15), sl15⟩) (c15 : PySem.W.codeIn K cd15 "_law_number" = true) (k15 : PySem.W.keepIn K (.ref f15) = true)
    (a16 : PySem.W.nsIn K mainGlobals "_law_led" = some (some (.ref f16))) (l16 : K.lookup f16 = some ⟨oc16, od16, .func (PySem.W.fnOf "_law_led" "_law_led" (defArgs (top 25)) (defBody (top 25)) (defScope (top 25)) .none kV16 dc16 pm16 an16 cd16 ct16), sl16⟩) (c16 : PySem.W.codeIn K cd16 "_law_led" = true) (k16 : PySem.W.keepIn K (.ref f16) = true)
    (a17 : PySem.W.nsIn K mainGlobals "_law_text" = some (some (.ref f17))) (l17 : K.lookup f17 = some ⟨oc17, od17, .func (PySem.W.fnOf "_law_text" "_law_text" (defArgs (top 26)) (defBody (top 26)) (defScope (top 26)) .none kV17 dc17 pm17 an17 cd17 ct17), sl17⟩) (c17 : PySem.W.codeIn K cd17 "_law_text" = true) (k17 : PySem.W.keepIn K (.ref f17) = true)
    (a18 : PySem.W.nsIn K mainGlobals "_law_bad" = some (some (.ref f18))) (l18 : K.lookup f18 = some ⟨oc18, od18, .func (PySem.W.fnOf "_law_bad" "_law_bad" (defArgs (top 27)) (defBody (top 27)) (defScope (top 27)) .none kV18 dc18 pm18 an18 cd18 ct18), sl18⟩) (c18 : PySem.W.codeIn K cd18 "_law_bad" = true) (k18 : PySem.W.keepIn K (.ref f18) = true)
    (a19 : PySem.W.nsIn K mainGlobals "_law_right" = some (some (.ref f19))) (l19 : K.lookup f19 = some ⟨oc19, od19, .func (PySem.W.fnOf "_law_right" "_law_right" (defArgs (top 28)) (defBody (top 28)) (defScope (top 28)) .none kV19 dc19 pm19 an19 cd19 ct19), sl19⟩) (c19 : PySem.W.codeIn K cd19 "_law_right" = true) (k19 : PySem.W.keepIn K (.ref f19) = true)
    (a20 : PySem.W.nsIn K mainGlobals "_law_refused" = some (some (.ref f20))) (l20 : K.lookup f20 = some ⟨oc20, od20, .func (PySem.W.fnOf "_law_refused" "_law_refused" (defArgs (top 29)) (defBody (top 29)) (defScope (top 29)) .none kV20 dc20 pm20 an20 cd20 ct20), sl20⟩) (c20 : PySem.W.codeIn K cd20 "_law_refused" = true) (k20 : PySem.W.keepIn K (.ref f20) = true)
    (a21 : PySem.W.nsIn K mainGlobals "law" = some (some (.ref f21))) (l21 : K.lookup f21 = some ⟨oc21, od21, .func (PySem.W.fnOf "law" "law" (defArgs (top 30)) (defBody (top 30)) (defScope (top 30)) .none kV21 dc21 pm21 an21 cd21 ct21), sl21⟩) (c21 : PySem.W.codeIn K cd21 "law" = true) (k21 : PySem.W.keepIn K (.ref f21) = true)
    {y_NoText y_ReachError y_Closed y_NoBook y_NoTable y_NoWord : Addr}
    (xg_NoText : PySem.W.nsIn K mainGlobals "NoText" = some (some (.ref y_NoText)))
    (xg_ReachError : PySem.W.nsIn K mainGlobals "ReachError" = some (some (.ref y_ReachError)))
    (xg_Closed : PySem.W.nsIn K mainGlobals "Closed" = some (some (.ref y_Closed)))
    (xg_NoBook : PySem.W.nsIn K mainGlobals "NoBook" = some (some (.ref y_NoBook)))
    (xg_NoTable : PySem.W.nsIn K mainGlobals "NoTable" = some (some (.ref y_NoTable)))
    (xg_NoWord : PySem.W.nsIn K mainGlobals "NoWord" = some (some (.ref y_NoWord)))
    (xc_NoText : XCls K y_NoText)
    (xk_NoText : XKit K y_NoText)
    (xe_NoText_ReachError : PySem.W.exmOne K (.ref y_NoText) (.ref y_ReachError) = some true)
    (xi_NoText_ValueError : PySem.W.kitOne K (.ref y_NoText) (.type "ValueError") = some true)
    (xi_NoText_NoText : PySem.W.kitOne K (.ref y_NoText) (.ref y_NoText) = some true)
    (xi_NoText_Closed_NoBook_NoTable_NoWord : PySem.W.kitAny K (.ref y_NoText) [.ref y_Closed, .ref y_NoBook, .ref y_NoTable, .ref y_NoWord] = some false)
    (z1 : PySem.W.nsIn K mainGlobals "ValueError" = some none) (z2 : PySem.W.nsIn K mainGlobals "abs" = some none) (z3 : PySem.W.nsIn K mainGlobals "all" = some none) (z4 : PySem.W.nsIn K mainGlobals "bool" = some none) (z5 : PySem.W.nsIn K mainGlobals "enumerate" = some none) (z6 : PySem.W.nsIn K mainGlobals "int" = some none) (z7 : PySem.W.nsIn K mainGlobals "isinstance" = some none) (z8 : PySem.W.nsIn K mainGlobals "len" = some none) (z9 : PySem.W.nsIn K mainGlobals "list" = some none) (z10 : PySem.W.nsIn K mainGlobals "range" = some none) (z11 : PySem.W.nsIn K mainGlobals "str" = some none) (z12 : PySem.W.nsIn K mainGlobals "tuple" = some none)  :
    ∃ fd : FuncData, (∀ (s : Shared) (v : Value), BindsTo s fd ⟨[v], []⟩ [("_law_script", v)]) ∧ ∀ base : Heap, K.In base → base.Ns mainGlobals mg → FnOk l.prog w K mg base CX0 6 fa fd ["_law_script"] (spLaw K) := by
  have e := hfa.symm.trans (PySem.W.mg_of X G a21)
  cases e
  have F1 := fun_mk (st := top 8) l1 c1 k1
  have b1 := F1.binds (ps := ["tongue", "thing"]) fun _ _ _ _ _ _ us hl => match us, hl with | [_, _], _ => rfl
  have F2 := fun_mk (st := top 10) l2 c2 k2
  have b2 := F2.binds (ps := ["tongue", "thing"]) fun _ _ _ _ _ _ us hl => match us, hl with | [_, _], _ => rfl
  have F3 := fun_mk (st := top 11) l3 c3 k3
  have b3 := F3.binds (ps := ["table", "word"]) fun _ _ _ _ _ _ us hl => match us, hl with | [_, _], _ => rfl
  have F4 := fun_mk (st := top 12) l4 c4 k4
  have b4 := F4.binds (ps := ["table", "word"]) fun _ _ _ _ _ _ us hl => match us, hl with | [_, _], _ => rfl
  have F5 := fun_mk (st := top 13) l5 c5 k5
  have b5 := F5.binds (ps := ["table", "room", "word"]) fun _ _ _ _ _ _ us hl => match us, hl with | [_, _, _], _ => rfl
  have F6 := fun_mk (st := top 14) l6 c6 k6
  have b6 := F6.binds (ps := ["table", "room", "word"]) fun _ _ _ _ _ _ us hl => match us, hl with | [_, _, _], _ => rfl
  have F7 := fun_mk (st := top 16) l7 c7 k7
  have b7 := F7.binds (ps := ["_law_script"]) fun _ _ _ _ _ _ us hl => match us, hl with | [_], _ => rfl
  have F8 := fun_mk (st := top 17) l8 c8 k8
  have b8 := F8.binds (ps := ["_law_hand_here", "_law_many"]) fun _ _ _ _ _ _ us hl => match us, hl with | [_, _], _ => rfl
  have F9 := fun_mk (st := top 18) l9 c9 k9
  have b9 := F9.binds (ps := []) fun _ _ _ _ _ _ us hl => match us, hl with | [], _ => rfl
  have F10 := fun_mk (st := top 19) l10 c10 k10
  have b10 := F10.binds (ps := ["_law_hand_here"]) fun _ _ _ _ _ _ us hl => match us, hl with | [_], _ => rfl
  have F11 := fun_mk (st := top 20) l11 c11 k11
  have b11 := F11.binds (ps := ["_law_hand_here", "_law_size", "_law_rooms"]) fun _ _ _ _ _ _ us hl => match us, hl with | [_, _, _], _ => rfl
  have F12 := fun_mk (st := top 21) l12 c12 k12
  have b12 := F12.binds (ps := ["_law_hand_here", "_law_rooms"]) fun _ _ _ _ _ _ us hl => match us, hl with | [_, _], _ => rfl
  have F13 := fun_mk (st := top 22) l13 c13 k13
  have b13 := F13.binds (ps := ["_law_hand_here", "_law_goes_here", "_law_kinds_here"]) fun _ _ _ _ _ _ us hl => match us, hl with | [_, _, _], _ => rfl
  have F14 := fun_mk (st := top 23) l14 c14 k14
  have b14 := F14.binds (ps := ["_law_hand_here"]) fun _ _ _ _ _ _ us hl => match us, hl with | [_], _ => rfl
  have F15 := fun_mk (st := top 24) l15 c15 k15
  have b15 := F15.binds (ps := ["_law_thing", "_law_low", "_law_high"]) fun _ _ _ _ _ _ us hl => match us, hl with | [_, _, _], _ => rfl
  have F16 := fun_mk (st := top 25) l16 c16 k16
  have b16 := F16.binds (ps := ["_law_table_here", "_law_room", "_law_word"]) fun _ _ _ _ _ _ us hl => match us, hl with | [_, _, _], _ => rfl
  have F17 := fun_mk (st := top 26) l17 c17 k17
  have b17 := F17.binds (ps := ["_law_hand_here", "_law_tongue_here"]) fun _ _ _ _ _ _ us hl => match us, hl with | [_, _], _ => rfl
  have F18 := fun_mk (st := top 27) l18 c18 k18
  have b18 := F18.binds (ps := ["_law_tongue_here", "_law_text_here", "_law_which", "_law_where"]) fun _ _ _ _ _ _ us hl => match us, hl with | [_, _, _, _], _ => rfl
  have F19 := fun_mk (st := top 28) l19 c19 k19
  have b19 := F19.binds (ps := ["_law_table_here", "_law_text_here"]) fun _ _ _ _ _ _ us hl => match us, hl with | [_, _], _ => rfl
  have F20 := fun_mk (st := top 29) l20 c20 k20
  have b20 := F20.binds (ps := ["_law_table_here", "_law_bad_here", "_law_whose"]) fun _ _ _ _ _ _ us hl => match us, hl with | [_, _, _], _ => rfl
  have F21 := fun_mk (st := top 30) l21 c21 k21
  have b21 := F21.binds (ps := ["_law_script"]) fun _ _ _ _ _ _ us hl => match us, hl with | [_], _ => rfl
  have M : Nm mg := ⟨PySem.W.mg_none_of X G z1, PySem.W.mg_none_of X G z2, PySem.W.mg_none_of X G z3, PySem.W.mg_none_of X G z4, PySem.W.mg_none_of X G z5, PySem.W.mg_none_of X G z6, PySem.W.mg_none_of X G z7, PySem.W.mg_none_of X G z8, PySem.W.mg_none_of X G z9, PySem.W.mg_none_of X G z10, PySem.W.mg_none_of X G z11, PySem.W.mg_none_of X G z12⟩
  have Z : Xn K mg y_NoText y_ReachError y_Closed y_NoBook y_NoTable y_NoWord := ⟨PySem.W.mg_of X G xg_NoText, PySem.W.mg_of X G xg_ReachError, PySem.W.mg_of X G xg_Closed, PySem.W.mg_of X G xg_NoBook, PySem.W.mg_of X G xg_NoTable, PySem.W.mg_of X G xg_NoWord, xg_NoText, xc_NoText, xk_NoText, xe_NoText_ReachError, xi_NoText_ValueError, xi_NoText_NoText, xi_NoText_Closed_NoBook_NoTable_NoWord⟩
  refine ⟨PySem.W.fnOf "law" "law" (defArgs (top 30)) (defBody (top 30)) (defScope (top 30)) .none kV21 dc21 pm21 an21 cd21 ct21, fun s v => .of_eq rfl, fun base _ _ => ?_⟩
  have D_0 := d_0 (P := l.prog) (w := w) (base := base) F1 (PySem.W.mg_of X G a1) k1 b1 M
  have D_1 := d_1 (P := l.prog) (w := w) (base := base) F2 (PySem.W.mg_of X G a2) k2 b2 Z D_0
  have D_5 := d_5 (P := l.prog) (w := w) (base := base) F6 (PySem.W.mg_of X G a6) k6 b6
  have D_4 := d_4 (P := l.prog) (w := w) (base := base) F5 (PySem.W.mg_of X G a5) k5 b5 D_5
  have D_2 := d_2 (P := l.prog) (w := w) (base := base) F3 (PySem.W.mg_of X G a3) k3 b3 D_1 D_4
  have D_3 := d_3 (P := l.prog) (w := w) (base := base) F4 (PySem.W.mg_of X G a4) k4 b4 D_2
  have D_6 := d_6 (P := l.prog) (w := w) (base := base) F7 (PySem.W.mg_of X G a7) k7 b7 M
  have D_7 := d_7 (P := l.prog) (w := w) (base := base) F8 (PySem.W.mg_of X G a8) k8 b8 M
  have D_8 := d_8 (P := l.prog) (w := w) (base := base) F9 (PySem.W.mg_of X G a9) k9 b9
  have D_9 := d_9 (P := l.prog) (w := w) (base := base) F10 (PySem.W.mg_of X G a10) k10 b10 M D_8 D_7
  have D_10 := d_10 (P := l.prog) (w := w) (base := base) F11 (PySem.W.mg_of X G a11) k11 b11 M D_7
  have D_11 := d_11 (P := l.prog) (w := w) (base := base) F12 (PySem.W.mg_of X G a12) k12 b12 M D_7
  have D_12 := d_12 (P := l.prog) (w := w) (base := base) F13 (PySem.W.mg_of X G a13) k13 b13 M D_7
  have D_13 := d_13 (P := l.prog) (w := w) (base := base) F14 (PySem.W.mg_of X G a14) k14 b14 M D_10 D_11 D_12 D_7 D_9
  have D_14 := d_14 (P := l.prog) (w := w) (base := base) F15 (PySem.W.mg_of X G a15) k15 b15 M
  have D_15 := d_15 (P := l.prog) (w := w) (base := base) F16 (PySem.W.mg_of X G a16) k16 b16
  have D_16 := d_16 (P := l.prog) (w := w) (base := base) F17 (PySem.W.mg_of X G a17) k17 b17 M D_7
  have D_17 := d_17 (P := l.prog) (w := w) (base := base) F18 (PySem.W.mg_of X G a18) k18 b18 M D_8
  have D_18 := d_18 (P := l.prog) (w := w) (base := base) F19 (PySem.W.mg_of X G a19) k19 b19 D_15 D_14 D_3 D_2
  have D_19 := d_19 (P := l.prog) (w := w) (base := base) F20 (PySem.W.mg_of X G a20) k20 b20 M Z D_3 D_2
  have D_20 := d_20 (P := l.prog) (w := w) (base := base) F21 (PySem.W.mg_of X G a21) k21 b21 D_17 D_6 D_19 D_18 D_13 D_7 D_16
  exact D_20.ok.imp law_to
theorem walk {l : PySem.W.OpenLaw} {q : Program} {loose : List Str} {XP : (Str → Option Value) → Heap → Prop} {YP : World → Heap → Prop} {d : DefRec} {K : Params → PySem.W.Frag} (hn : l.most = some 63) (hdf : d.params.defaults = [])
    (hY : ∀ (w : World) (h : Heap), YP w h → (K w.params).In h)
    (F : ∀ (w : World) (mg : Str → Option Value) (fa : Addr) (h : Heap), (K w.params).In h → h.Ns mainGlobals mg → mg d.name = some (.ref fa) →
      ∃ fd : FuncData, (∀ (s : Shared) (u : Value), BindsTo s fd ⟨[u], []⟩ [("_law_script", u)]) ∧ ∀ base : Heap, (K w.params).In base → base.Ns mainGlobals mg → FnOk l.prog w (K w.params) mg base CX0 6 fa fd ["_law_script"] (spLaw (K w.params))) :
    PySem.W.WalkO q loose XP YP l.row.toRowW d [] (fun f vs => PySem.call f vs) :=
  L2.walk_of (n := 63) (k := 6) (x := "_law_script") (CX := fun _ => CX0) (sp := fun w => spLaw (K w.params)) hn (by decide) hdf ⟨rfl, by decide, by decide, rfl⟩ hY F (fun _ _ a ns hl hO hS => ⟨a, ns, rfl, sqf_of hO hS, hl, fun _ => rfl⟩) fun _ _ _ _ _ z => z
end K21
open PySem PySem.W PyProof.Rows
set_option maxRecDepth 100000 in
set_option maxHeartbeats 0 in
theorem PySem.Challenge.cw_nearreach_k21_rooms_and_kinds_of_words_holds : PySem.Challenge.rw_nearreach_k21_rooms_and_kinds_of_words.Holds := by
  w_on; o_law; k_head; (case hw => w_witness2)
  k_fill
  refine K21.walk (l := PySem.Challenge.rw_nearreach_k21_rooms_and_kinds_of_words) rfl rfl (fun w h Y => PySem.W.kIn_of Y) ?F
  case F =>
    intro w mg fa h KX G hmg
    refine' K21.all_mk KX G hmg ?a1 ?l1 ?c1 ?k1 ?a2 ?l2 ?c2 ?k2 ?a3 ?l3 ?c3 ?k3 ?a4 ?l4 ?c4 ?k4 ?a5 ?l5 ?c5 ?k5 ?a6 ?l6 ?c6 ?k6 ?a7 ?l7 ?c7 ?k7 ?a8 ?l8 ?c8 ?k8 ?a9 ?l9 ?c9 ?k9 ?a10 ?l10 ?c10 ?k10 ?a11 ?l11 ?c11 ?k11 ?a12 ?l12 ?c12 ?k12 ?a13 ?l13 ?c13 ?k13 ?a14 ?l14 ?c14 ?k14 ?a15 ?l15 ?c15 ?k15 ?a16 ?l16 ?c16 ?k16 ?a17 ?l17 ?c17 ?k17 ?a18 ?l18 ?c18 ?k18 ?a19 ?l19 ?c19 ?k19 ?a20 ?l20 ?c20 ?k20 ?a21 ?l21 ?c21 ?k21 ?xg_NoText ?xg_ReachError ?xg_Closed ?xg_NoBook ?xg_NoTable ?xg_NoWord ?xc_NoText ?xk_NoText ?xe_NoText_ReachError ?xi_NoText_ValueError ?xi_NoText_NoText ?xi_NoText_Closed_NoBook_NoTable_NoWord ?z1 ?z2 ?z3 ?z4 ?z5 ?z6 ?z7 ?z8 ?z9 ?z10 ?z11 ?z12
    (case a1 => k_is); (case l1 => k_is); (case c1 => k_is); (case k1 => k_is)
    (case a2 => k_is); (case l2 => k_is); (case c2 => k_is); (case k2 => k_is)
    (case a3 => k_is); (case l3 => k_is); (case c3 => k_is); (case k3 => k_is)
    (case a4 => k_is); (case l4 => k_is); (case c4 => k_is); (case k4 => k_is)
    (case a5 => k_is); (case l5 => k_is); (case c5 => k_is); (case k5 => k_is)
    (case a6 => k_is); (case l6 => k_is); (case c6 => k_is); (case k6 => k_is)
    (case a7 => k_is); (case l7 => k_is); (case c7 => k_is); (case k7 => k_is)
    (case a8 => k_is); (case l8 => k_is); (case c8 => k_is); (case k8 => k_is)
    (case a9 => k_is); (case l9 => k_is); (case c9 => k_is); (case k9 => k_is)
    (case a10 => k_is); (case l10 => k_is); (case c10 => k_is); (case k10 => k_is)
    (case a11 => k_is); (case l11 => k_is); (case c11 => k_is); (case k11 => k_is)
    (case a12 => k_is); (case l12 => k_is); (case c12 => k_is); (case k12 => k_is)
    (case a13 => k_is); (case l13 => k_is); (case c13 => k_is); (case k13 => k_is)
    (case a14 => k_is); (case l14 => k_is); (case c14 => k_is); (case k14 => k_is)
    (case a15 => k_is); (case l15 => k_is); (case c15 => k_is); (case k15 => k_is)
    (case a16 => k_is); (case l16 => k_is); (case c16 => k_is); (case k16 => k_is)
    (case a17 => k_is); (case l17 => k_is); (case c17 => k_is); (case k17 => k_is)
    (case a18 => k_is); (case l18 => k_is); (case c18 => k_is); (case k18 => k_is)
    (case a19 => k_is); (case l19 => k_is); (case c19 => k_is); (case k19 => k_is)
    (case a20 => k_is); (case l20 => k_is); (case c20 => k_is); (case k20 => k_is)
    (case a21 => k_is); (case l21 => k_is); (case c21 => k_is); (case k21 => k_is)
    (case xg_NoText => k_is)
    (case xg_ReachError => k_is)
    (case xg_Closed => k_is)
    (case xg_NoBook => k_is)
    (case xg_NoTable => k_is)
    (case xg_NoWord => k_is)
    (case xc_NoText => exact L2.xcls_of (by kernel_rfl))
    (case xk_NoText => constructor <;> first | k_is | kernel_rfl)
    (case xe_NoText_ReachError => kernel_rfl)
    (case xi_NoText_ValueError => kernel_rfl)
    (case xi_NoText_NoText => kernel_rfl)
    (case xi_NoText_Closed_NoBook_NoTable_NoWord => kernel_rfl)
    (case z1 => k_is)
    (case z2 => k_is)
    (case z3 => k_is)
    (case z4 => k_is)
    (case z5 => k_is)
    (case z6 => k_is)
    (case z7 => k_is)
    (case z8 => k_is)
    (case z9 => k_is)
    (case z10 => k_is)
    (case z11 => k_is)
    (case z12 => k_is)
