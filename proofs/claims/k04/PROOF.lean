import PyProof.Rows.All
import Wide.All
import OpenK.AllK
import Wide.FinOn
import Lean
import PyProof.EqAt
import PyProof.EqKinds
import PyProof.TupleCall
import PyProof.ListStr
import PyProof.TupleOfStr
import PyProof.ConsumeWalk
import PyProof.SliceStr2
import PyProof.Rows.SetFrom
import PyProof.SetRoads
import PyProof.StrLawsIn
import PyProof.Rows.StrIndexOr
import PyProof.Rows.StrJoin2
import PyProof.Rows.SumAny
import PyProof.Draws
import PyProof.ZipIter
import PyProof.EnumMake
import PySem.Challenge.RW_nearreach_k04_shapes_of_anything
set_option Elab.async false
set_option linter.all false
set_option maxRecDepth 100000
namespace L2
open PySem PySem.Spec PyProof.Rows
abbrev Key := Sum Int Str
def keyIs : Key → Value → Bool
  | .inl k, v => Value.isInt k v
  | .inr x, v => Value.isStrOf x v
def keyH (w : World) : Key → Int
  | .inl k => hashInt k
  | .inr x => hashStr w x
theorem keyIs_shape : ∀ {k : Key} {v : Value}, keyIs k v = true → (∃ i t, k = Sum.inl i ∧ v = Value.int i t) ∨ (∃ x t, k = Sum.inr x ∧ v = Value.str x t)
  | .inl i, v, h => by
    obtain ⟨t, e⟩ := Value.isInt_shape (k := i) (v := v) h
    exact .inl ⟨i, t, rfl, e⟩
  | .inr x, v, h => by
    obtain ⟨t, e⟩ := Value.isStrOf_shape (x := x) (v := v) h
    exact .inr ⟨x, t, rfl, e⟩
theorem key_ll (a b : Int) : decide ((Sum.inl a : Key) = Sum.inl b) = (a == b) := by
  by_cases e : a = b
  · subst e; simp
  · have h : ¬ (Sum.inl a : Key) = Sum.inl b := fun q => e (Sum.inl.inj q)
    rw [decide_eq_false h]
    exact (beq_eq_false_iff_ne.mpr e).symm
theorem key_rr (a b : Str) : decide ((Sum.inr a : Key) = Sum.inr b) = decide (a = b) := by
  by_cases e : a = b
  · subst e; simp
  · have h : ¬ (Sum.inr a : Key) = Sum.inr b := fun q => e (Sum.inr.inj q)
    rw [decide_eq_false h, decide_eq_false e]
theorem key_lr (a : Int) (b : Str) : decide ((Sum.inl a : Key) = Sum.inr b) = false := decide_eq_false (fun q => nomatch q)
theorem key_rl (a : Str) (b : Int) : decide ((Sum.inr a : Key) = Sum.inl b) = false := decide_eq_false (fun q => nomatch q)
def mixKind (prog : Program) (w : World) : PySem.KeyKind prog w Key where
  is := keyIs
  hash := keyH w
  inj := fun v a b ha hb => by
    rcases keyIs_shape ha with ⟨i, t, rfl, rfl⟩ | ⟨x, t, rfl, rfl⟩
    · rcases keyIs_shape hb with ⟨j, u, rfl, e⟩ | ⟨y, u, rfl, e⟩
      · injection e with e1 _; rw [e1]
      · exact nomatch e
    · rcases keyIs_shape hb with ⟨j, u, rfl, e⟩ | ⟨y, u, rfl, e⟩
      · exact nomatch e
      · injection e with e1 _; rw [e1]
  byValue := fun k v h => by
    rcases keyIs_shape h with ⟨i, t, rfl, rfl⟩ | ⟨x, t, rfl, rfl⟩ <;> rfl
  pyHash := fun hv h => by
    rcases keyIs_shape hv with ⟨i, t, rfl, rfl⟩ | ⟨x, t, rfl, rfl⟩
    · exact wpAny_pyHash_int h
    · exact wpAny_pyHash_str h
  eqBool := fun hu hv h => by
    rcases keyIs_shape hu with ⟨i, t, rfl, rfl⟩ | ⟨x, t, rfl, rfl⟩
    · rcases keyIs_shape hv with ⟨j, u, rfl, rfl⟩ | ⟨y, u, rfl, rfl⟩
      · rw [key_ll] at h; exact wpAny_eqBool_int h
      · rw [key_lr] at h; exact SeqAt.EqAt.int_str i t y u _ _ _ _ h
    · rcases keyIs_shape hv with ⟨j, u, rfl, rfl⟩ | ⟨y, u, rfl, rfl⟩
      · rw [key_rl] at h; exact SeqAt.EqAt.str_int x t j u _ _ _ _ h
      · rw [key_rr] at h; exact wpAny_eqBool_str h
  «strs» := fun k x t v h => by
    rcases keyIs_shape h with ⟨i, u, rfl, e⟩ | ⟨y, u, rfl, e⟩
    · exact nomatch e
    · injection e with e1 _
      subst e1
      cases v <;> rfl
end L2
namespace L2
open PySem PySem.Spec PyProof.Rows
inductive V where
  | non | bl (b : Bool) | int (i : Int) | str (x : Str) | byt (b : Array UInt8) | flt (b : UInt64) | ref (a : Addr) | ty (n : String)
  deriving DecidableEq
def RelV : V → Value → Prop
  | .non, u => u = Value.none
  | .bl b, u => u = Value.bool b
  | .int i, u => ∃ t, u = Value.int i t
  | .str x, u => ∃ t, u = Value.str x t
  | .byt b, u => ∃ t, u = Value.bytes b t
  | .flt b, u => ∃ t, u = Value.float b t
  | .ref a, u => u = Value.ref a
  | .ty n, u => u = Value.type n
abbrev Vals : List V → List Value → Prop := Paired RelV
theorem Vals.length {xs : List V} {us : List Value} (r : Vals xs us) : xs.length = us.length := Paired.length r
theorem Vals.get : ∀ {xs : List V} {us : List Value} {i : Nat} {x : V}, Vals xs us → xs[i]? = some x → ∃ u, us[i]? = some u ∧ RelV x u
  | _, _, _, _, .nil, e => by simp at e
  | _, _, 0, _, .cons r _, e => by simp at e; subst e; exact ⟨_, rfl, r⟩
  | _, _, i + 1, x, .cons _ t, e => by
    obtain ⟨u, h1, h2⟩ := Vals.get (i := i) (x := x) t (by simpa using e)
    exact ⟨u, by simpa using h1, h2⟩
theorem Vals.set {x : V} {u : Value} (r : RelV x u) : ∀ {xs : List V} {us : List Value} (i : Nat), Vals xs us → Vals (xs.set i x) (us.set i u)
  | _, _, _, .nil => .nil
  | _, _, 0, .cons _ t => .cons r t
  | _, _, i + 1, .cons q t => .cons q (Vals.set r i t)
theorem Vals.append : ∀ {xs ys : List V} {us ws : List Value}, Vals xs us → Vals ys ws → Vals (xs ++ ys) (us ++ ws)
  | _, _, _, _, .nil, s => s
  | _, _, _, _, .cons r t, s => .cons r (Vals.append t s)
theorem Vals.take : ∀ {xs : List V} {us : List Value} (n : Nat), Vals xs us → Vals (xs.take n) (us.take n)
  | _, _, 0, _ => .nil
  | _, _, _ + 1, .nil => .nil
  | _, _, n + 1, .cons r t => .cons r (Vals.take n t)
theorem Vals.drop : ∀ {xs : List V} {us : List Value} (n : Nat), Vals xs us → Vals (xs.drop n) (us.drop n)
  | _, _, 0, r => r
  | _, _, _ + 1, .nil => .nil
  | _, _, n + 1, .cons _ t => Vals.drop n t
def RelO : Option V → Option Value → Prop
  | some v, some u => RelV v u
  | none, none => True
  | _, _ => False
def KV {κ : Type} : List (κ × V) → List (κ × Value) → Prop := Paired fun (p : κ × V) (q : κ × Value) => p.1 = q.1 ∧ RelV p.2 q.2
def kV : Key → V
  | .inl i => .int i
  | .inr x => .str x
inductive HO where
  | lst (xs : List V)
  | tup (xs : List V)
  | dK (kvs : List (Key × V)) | dT (kvs : List (List Key × V))
  | set (S : Int → Bool) (n : Nat)
  | ins (C dx : Addr) (fs : List (Str × V))
  | own (x : Addr)
  | xd (fs : List (Str × V))
  | met (f x : Addr)
  | rng (lo hi : Int)
  | frz (o : Obj) (u : HO)
  | tbl (ps : Array Value)
  | ext (φ : Heap → Prop)
abbrev Hp := Addr → Option HO
def upd (H : Hp) (a : Addr) (o : HO) : Hp := fun b => if b = a then some o else H b
theorem upd_same {H : Hp} {a : Addr} {o : HO} : upd H a o a = some o := by unfold upd; rw [if_pos rfl]
theorem upd_ne {H : Hp} {a b : Addr} {o : HO} (h : b ≠ a) : upd H a o b = H b := by unfold upd; rw [if_neg h]
theorem ne_of_none {H : Hp} {a b : Addr} {o : HO} (h : H a = some o) (h' : H b = none) : a ≠ b := by
  intro e; subst e; rw [h] at h'; cases h'
section
variable (P : Program) (w : World)
def ObjOk (H : Hp) (h : Heap) (a : Addr) : HO → Prop
  | .lst xs => xs.length ≤ sizeLine ∧ ∃ (its : List Value) (n : Nat), Vals xs its ∧ h.get? a = some { cls := .type "list", data := .seq its.toArray n }
  | .tup xs => xs.length ≤ sizeLine ∧ ∃ its : List Value, Vals xs its ∧ IsTup h a its.toArray
  | .dK kvs => kvs.length ≤ sizeLine ∧ (a == sysModules) = false ∧ ∃ vs, KV kvs vs ∧ h.DictOf (mixKind P w) a vs
  | .dT kvs => kvs.length ≤ sizeLine ∧ (a == sysModules) = false ∧ ∃ xs : List (List Key × Addr × Value),
      Paired (fun (p : List Key × V) (q : List Key × Addr × Value) => p.1 = q.1 ∧ H q.2.1 = some (.tup (p.1.map kV)) ∧ RelV p.2 q.2.2) kvs xs ∧
      ∃ o es ep, h.get? a = some o ∧ o.ExactDict ∧ o.data = .dict es ep ∧ es.toList = xs.map (entryOfKey (tupleKind (mixKind P w))) ∧ (xs.map (·.1)).Nodup
  | .set S n => h.SetOf (intKind P w) a S n
  | .ins C dx fs => H dx = some (.own a) ∧ fs.length ≤ 1000 ∧ dx ≠ a ∧ h.get? a = some (PySem.W.instObj C dx) ∧
      ∃ mA, h.Ns1 dx mA ∧ (∀ f, RelO (fs.lookup f) (mA f)) ∧ PySem.Within mA (fs.map (·.1))
  | .own _ => ∃ o, h.get? a = some o
  | .xd fs => ∃ mA, h.Ns1 a mA ∧ ∀ f, RelO (fs.lookup f) (mA f)
  | .rng lo hi => ∃ t u v, h.get? a = some { cls := .type "range", data := .fields #[.int lo t, .int hi u, .int 1 v] }
  | .frz o u => h.get? a = some o ∧ ObjOk H h a u
  | .tbl ps => h.get? a = some { cls := .none, data := .fields ps }
  | .met f x => h.get? a = some (PySem.W.methodObj (.ref f) (.ref x))
  | .ext φ => φ h ∧ (∃ o, h.get? a = some o) ∧ ∀ h1 h2 : Heap, φ h1 → (∀ o, h1.get? a = some o → h2.get? a = some o) → φ h2
def HOk (H : Hp) (h : Heap) : Prop := ∀ a o, H a = some o → ObjOk P w H h a o
end
section
variable {P : Program} {w : World} {H H' : Hp} {h h' : Heap} {a : Addr} {o : HO}
theorem ObjOk.lt (x : ObjOk P w H h a o) : a < h.objs.size := by
  cases o with
  | lst xs => obtain ⟨_, _, _, _, e⟩ := x; exact Heap.lt_size e
  | tup xs => obtain ⟨_, _, _, p⟩ := x; exact p.lt
  | dK kvs => obtain ⟨_, _, _, _, o, _, _, e, _⟩ := x; exact Heap.lt_size e
  | dT kvs => obtain ⟨_, _, _, _, o, _, _, e, _⟩ := x; exact Heap.lt_size e
  | set S n => obtain ⟨o, _, _, _, e, _⟩ := x; exact Heap.lt_size e
  | ins C dx fs => obtain ⟨_, _, _, e, _⟩ := x; exact Heap.lt_size e
  | own y => obtain ⟨_, e⟩ := x; exact Heap.lt_size e
  | xd fs => obtain ⟨_, ⟨_, _, _, e, _⟩, _⟩ := x; exact Heap.lt_size e
  | rng lo hi => obtain ⟨_, _, _, e⟩ := x; exact Heap.lt_size e
  | frz ob u => obtain ⟨e, _⟩ := x; exact Heap.lt_size e
  | tbl ps => exact Heap.lt_size (show h.get? a = some _ from x)
  | met f y => exact Heap.lt_size (show h.get? a = some _ from x)
  | ext φ => obtain ⟨_, ⟨_, e⟩, _⟩ := x; exact Heap.lt_size e
theorem Paired.mapP {α β : Type} {F G : α → β → Prop} : ∀ {l₁ : List α} {l₂ : List β}, Paired F l₁ l₂ → (∀ a b, F a b → G a b) → Paired G l₁ l₂
  | _, _, .nil, _ => .nil
  | _, _, .cons r t, f => .cons (f _ _ r) (Paired.mapP t f)
theorem ObjOk.stay (x : ObjOk P w H h a o) (k : ∀ b u, (b = a ∨ H b = some (.own a)) → h.get? b = some u → h'.get? b = some u)
    (ho : ∀ b, H b = some (.own a) → H' b = some (.own a)) (ht : ∀ b xs, H b = some (.tup xs) → H' b = some (.tup xs)) : ObjOk P w H' h' a o := by
  induction o with
  | lst xs => obtain ⟨z, its, n, r, e⟩ := x; exact ⟨z, its, n, r, k _ _ (.inl rfl) e⟩
  | tup xs => obtain ⟨z, its, r, ob, e, c⟩ := x; exact ⟨z, its, r, ob, k _ _ (.inl rfl) e, c⟩
  | dK kvs => obtain ⟨z, y, vs, r, ob, es, ep, e, c⟩ := x; exact ⟨z, y, vs, r, ob, es, ep, k _ _ (.inl rfl) e, c⟩
  | dT kvs =>
    obtain ⟨z, y, xs, r, ob, es, ep, e, c⟩ := x
    exact ⟨z, y, xs, Paired.mapP r fun p q z => ⟨z.1, ht _ _ z.2.1, z.2.2⟩, ob, es, ep, k _ _ (.inl rfl) e, c⟩
  | set S n => obtain ⟨ob, es, ep, t, e, c⟩ := x; exact ⟨ob, es, ep, t, k _ _ (.inl rfl) e, c⟩
  | ins C dx fs =>
    obtain ⟨d, z, ne, e, mA, ⟨od, es, ep, e2, c⟩, r⟩ := x
    exact ⟨ho _ d, z, ne, k _ _ (.inl rfl) e, mA, ⟨od, es, ep, k _ _ (.inr d) e2, c⟩, r⟩
  | own y => obtain ⟨ob, e⟩ := x; exact ⟨ob, k _ _ (.inl rfl) e⟩
  | xd fs => obtain ⟨mA, ⟨od, es, ep, e, c⟩, r⟩ := x; exact ⟨mA, ⟨od, es, ep, k _ _ (.inl rfl) e, c⟩, r⟩
  | rng lo hi => obtain ⟨t, u, v, e⟩ := x; exact ⟨t, u, v, k _ _ (.inl rfl) e⟩
  | frz ob u ih => obtain ⟨e, q⟩ := x; exact ⟨k _ _ (.inl rfl) e, ih q⟩
  | tbl ps =>
    have e : h.get? a = some { cls := .none, data := .fields ps } := x
    show h'.get? a = some { cls := .none, data := .fields ps }
    exact k a _ (.inl rfl) e
  | met f y =>
    have e : h.get? a = some (PySem.W.methodObj (.ref f) (.ref y)) := x
    show h'.get? a = some (PySem.W.methodObj (.ref f) (.ref y))
    exact k a _ (.inl rfl) e
  | ext φ => obtain ⟨p, ⟨o, e⟩, st⟩ := x; exact ⟨st _ _ p fun o q => k _ _ (.inl rfl) q, ⟨o, k _ _ (.inl rfl) e⟩, st⟩
theorem HOk.lt (x : HOk P w H h) (e : H a = some o) : a < h.objs.size := (x a o e).lt
theorem HOk.fresh (x : HOk P w H h) (e : h.objs.size ≤ a) : H a = none := by
  cases q : H a with
  | none => rfl
  | some u => exact absurd (Nat.lt_of_lt_of_le (x.lt q) e) (Nat.lt_irrefl _)
theorem HOk.kept (x : HOk P w H h) (k : ∀ b u, h.get? b = some u → h'.get? b = some u) : HOk P w H h' := fun a o e =>
  (x a o e).stay (fun b u _ q => k b u q) (fun _ q => q) fun _ _ q => q
theorem HOk.laid (x : HOk P w H h) (k : ∀ b u, h.get? b = some u → h'.get? b = some u) (hp : h.objs.size ≤ a) (new : ObjOk P w (upd H a o) h' a o) : HOk P w (upd H a o) h' := fun b u e => by
  have hn := x.fresh hp
  by_cases hb : b = a
  · subst hb; rw [upd_same] at e; cases e; exact new
  · rw [upd_ne hb] at e
    exact (x b u e).stay (fun c v _ q => k c v q) (fun c q => by rw [upd_ne (ne_of_none q hn)]; exact q) fun c xs q => by rw [upd_ne (ne_of_none q hn)]; exact q
end
def Rd (H : Hp) (a : Addr) (u : HO) : Prop := H a = some u ∨ ∃ o, H a = some (.frz o u)
theorem Rd.of {H : Hp} {a : Addr} {u : HO} (h : H a = some u) : Rd H a u := .inl h
theorem Rd.ok {P : Program} {w : World} {H : Hp} {h : Heap} {a : Addr} {u : HO} (r : Rd H a u) (x : HOk P w H h) : ObjOk P w H h a u := by
  rcases r with r | ⟨o, r⟩
  · exact x a u r
  · obtain ⟨_, q⟩ := x a _ r
    exact q
def Mut : Option HO → Prop
  | some (.lst _) => True
  | some (.dK _) => True
  | some (.dT _) => True
  | some (.set _ _) => True
  | some (.ins _ _ _) => True
  | some (.ext _) => True
  | _ => False
section
variable {P : Program} {w : World} {H : Hp} {h h' : Heap} {x e : Addr} {o' : HO}
theorem HOk.write (ok : HOk P w H h) (mu : Mut (H x)) (he : e = x ∨ H e = some (.own x)) (k : ∀ b u, b ≠ e → h.get? b = some u → h'.get? b = some u) (heo : ∃ u, h'.get? e = some u)
    (new : ObjOk P w (upd H x o') h' x o') : HOk P w (upd H x o') h' := fun b u q => by
  have nown : ∀ c y, H c = some (.own y) → c ≠ x := fun c y r z => by subst z; rw [r] at mu; exact mu
  have ntup : ∀ c xs, H c = some (.tup xs) → c ≠ x := fun c xs r z => by subst z; rw [r] at mu; exact mu
  by_cases hb : b = x
  · subst hb; rw [upd_same] at q; cases q; exact new
  · rw [upd_ne hb] at q
    by_cases hbe : b = e
    · have q' : H b = some (.own x) := by
        rcases he with z | z
        · exact absurd (hbe.trans z) hb
        · rw [hbe]; exact z
      rw [q] at q'; cases q'
      obtain ⟨v, hv⟩ := heo
      exact ⟨v, by rw [hbe]; exact hv⟩
    · refine (ok b u q).stay (fun c v hc r => k c v ?_ r) (fun c r => by rw [upd_ne (nown c b r)]; exact r) fun c xs r => by rw [upd_ne (ntup c xs r)]; exact r
      rcases hc with rfl | hc
      · exact hbe
      · rintro rfl
        rcases he with z | z
        · exact nown c b hc z
        · rw [hc] at z; cases z; exact hb rfl
end
structure Un (fs ex : List Addr) (H H' : Hp) (h h' : Heap) : Prop where
  keep : ∀ b o, h.get? b = some o → H b = none → b ∉ fs → b ∉ ex → h'.get? b = some o
  slot : ∀ b o, h.get? b = some o → H b = none → b ∈ fs → b ∉ ex → ∃ sl, h'.get? b = some { o with slots := sl }
  free : ∀ b o, h.get? b = some o → H b = none → b ∉ ex → H' b = none
  there : ∀ b o, h.get? b = some o → b ∉ ex → ∃ o', h'.get? b = some o'
  tups : ∀ b xs, H b = some (.tup xs) → H' b = some (.tup xs)
  frzs : ∀ b o u, H b = some (.frz o u) → H' b = some (.frz o u)
  tbls : ∀ b ps, H b = some (.tbl ps) → ∃ more, H' b = some (.tbl (ps ++ more))
section
variable {fs fs' ex ex' : List Addr} {H H1 H2 : Hp} {h h1 h2 h' : Heap} {a x e : Addr} {o : HO}
theorem Un.any (u : Un fs ex H H1 h h1) {b : Addr} {ob : Obj} (q : h.get? b = some ob) (n : H b = none) (hx : b ∉ ex) : ∃ sl, h1.get? b = some { ob with slots := sl } := by
  by_cases hb : b ∈ fs
  · exact u.slot b ob q n hb hx
  · exact ⟨ob.slots, u.keep b ob q n hb hx⟩
theorem Un.trans (a : Un fs ex H H1 h h1) (b : Un fs ex H1 H2 h1 h2) : Un fs ex H H2 h h2 where
  keep := fun c ob q n hc hx => b.keep c ob (a.keep c ob q n hc hx) (a.free c ob q n hx) hc hx
  slot := fun c ob q n hc hx => by
    obtain ⟨sl, e1⟩ := a.slot c ob q n hc hx
    obtain ⟨sl', e2⟩ := b.slot c _ e1 (a.free c ob q n hx) hc hx
    exact ⟨sl', e2⟩
  free := fun c ob q n hx => by
    obtain ⟨o', e1⟩ := a.there c ob q hx
    exact b.free c o' e1 (a.free c ob q n hx) hx
  there := fun c ob q hx => by
    obtain ⟨o', e1⟩ := a.there c ob q hx
    exact b.there c o' e1 hx
  tups := fun c xs q => b.tups c xs (a.tups c xs q)
  frzs := fun c ob xs q => b.frzs c ob xs (a.frzs c ob xs q)
  tbls := fun c ps q => by
    obtain ⟨m1, e1⟩ := a.tbls c ps q
    obtain ⟨m2, e2⟩ := b.tbls c _ e1
    exact ⟨m1 ++ m2, by rw [e2, Array.append_assoc]⟩
theorem Un.kept (k : ∀ b u, h.get? b = some u → h'.get? b = some u) : Un fs ex H H h h' :=
  ⟨fun b ob q _ _ _ => k b ob q, fun b ob q _ _ _ => ⟨ob.slots, k b ob q⟩, fun _ _ _ n _ => n, fun b ob q _ => ⟨ob, k b ob q⟩, fun _ _ q => q, fun _ _ _ q => q, fun _ ps q => ⟨#[], by rw [q]; simp⟩⟩
theorem Un.refl : Un fs ex H H h h := Un.kept fun _ _ q => q
theorem Un.laid (k : ∀ b u, h.get? b = some u → h'.get? b = some u) (hp : h.objs.size ≤ a) (hn : H a = none) : Un fs ex H (upd H a o) h h' where
  keep := fun b u q _ _ _ => k b u q
  slot := fun b u q _ _ _ => ⟨u.slots, k b u q⟩
  free := fun b u q n _ => by rw [upd_ne (Nat.ne_of_lt (Nat.lt_of_lt_of_le (Heap.lt_size q) hp))]; exact n
  there := fun b u q _ => ⟨u, k b u q⟩
  tups := fun b xs q => by rw [upd_ne (ne_of_none q hn)]; exact q
  frzs := fun b u xs q => by rw [upd_ne (ne_of_none q hn)]; exact q
  tbls := fun b ps q => ⟨#[], by rw [upd_ne (ne_of_none q hn), q]; simp⟩
theorem Un.write (mu : Mut (H x)) (he : e = x ∨ H e = some (.own x)) (k : ∀ b u, b ≠ e → h.get? b = some u → h'.get? b = some u) (heo : ∃ u, h'.get? e = some u) : Un fs ex H (upd H x o) h h' := by
  have hx : ∀ b, H b = none → b ≠ x := fun b n z => by subst z; rw [n] at mu; exact mu
  have hb : ∀ b, H b = none → b ≠ e := fun b n z => by
    subst z
    rcases he with r | r
    · exact hx b n r
    · rw [n] at r; cases r
  have hm : ∀ b u, H b = some u → ¬ Mut (some u) → b ≠ x := fun b u q nm z => by subst z; rw [q] at mu; exact nm mu
  refine ⟨fun b u q n _ _ => k b u (hb b n) q, fun b u q n _ _ => ⟨u.slots, k b u (hb b n) q⟩, fun b u q n _ => by rw [upd_ne (hx b n)]; exact n, fun b u q _ => ?_,
    fun b xs q => by rw [upd_ne (hm b _ q fun z => z)]; exact q, fun b u xs q => by rw [upd_ne (hm b _ q fun z => z)]; exact q, fun b ps q => ⟨#[], by rw [upd_ne (hm b _ q fun z => z), q]; simp⟩⟩
  by_cases hbe : b = e
  · subst hbe; exact heo
  · exact ⟨u, k b u hbe q⟩
theorem Un.mono (u : Un fs ex H H1 h h1) (hs : ∀ b ∈ fs, b ∈ fs') (hx : ∀ b ∈ ex, b ∈ ex') : Un fs' ex' H H1 h h1 :=
  ⟨fun b ob q n hb he => u.keep b ob q n (fun z => hb (hs b z)) fun z => he (hx b z), fun _ _ q n _ he => u.any q n fun z => he (hx _ z), fun b ob q n he => u.free b ob q n fun z => he (hx b z), fun b ob q he => u.there b ob q fun z => he (hx b z), u.tups, u.frzs, u.tbls⟩
end
def trk (h : Heap) (H : Hp) : List Addr := (List.range h.objs.size).filter fun a => (H a).isSome
def hidT (h : Heap) (H : Hp) : Heap := PySem.W.hideAll h (trk h H)
theorem hidT_size (h : Heap) (H : Hp) : (hidT h H).objs.size = h.objs.size := PySem.W.hideAll_size _ _
theorem hidT_get {h : Heap} {H : Hp} {b : Addr} {o : Obj} (e : h.get? b = some o) (n : H b = none) : (hidT h H).get? b = some o :=
  PySem.W.hideAll_get _ e fun hm => by
    have q : (H b).isSome = true := (List.mem_filter.mp hm).2
    rw [n] at q; simp at q
theorem of_hidT {h : Heap} {H : Hp} {b : Addr} {o : Obj} (e : (hidT h H).get? b = some o) : h.get? b = some o ∧ H b = none := by
  have e' : h.get? b = some o := PySem.W.of_hideAll (trk h H) e
  refine ⟨e', ?_⟩
  cases q : H b with
  | none => rfl
  | some x =>
    have hm : b ∈ trk h H := List.mem_filter.mpr ⟨List.mem_range.mpr (Heap.lt_size e'), by simp [q]⟩
    have z : (hidT h H).get? b = none := PySem.W.hideAll_none (trk h H) hm
    rw [z] at e; cases e
def allNews (g h : Heap) (L : Addr) : List (Addr × Obj) := (List.range h.objs.size).filterMap fun a => if a = L ∨ (g.get? a).isSome = true then none else (h.get? a).map fun o => (a, o)
def rest (g h : Heap) (L d : Addr) : List (Addr × Obj) := (allNews g h L).filter fun p => decide (p.1 ≠ d)
end L2
namespace L2
open PySem PySem.Spec PyProof.Rows
structure Mod (K : PySem.W.Frag) (mg : Str → Option Value) (base : Heap) : Prop where
  kin : K.In base
  glob : base.Ns mainGlobals mg
  blt : ∃ mb, base.Ns builtinsNs mb ∧ ∀ x : Str, x ≠ "__name__" → mb x = bootBuiltins x
  nolimit : base.NoLimit
structure Cx where
  prog : Program
  w : World
  K : PySem.W.Frag
  mg : Str → Option Value
  base : Heap
  A : Around
  N : List Str
  s₀ : Shared
  H₀ : Hp
  env : Env
  outer : List Env
  stack : List Env
  ex : List Addr
  fn : Str → Bool
  calm : Bool
  pn : List (Addr × Obj)
  xe : Value → Shared → Prop
def frs (l : List Env) : List Addr := l.filterMap (·.frame)
abbrev Cx.fs (X : Cx) : List Addr := frs X.outer
def Vis (sc : Scope) (x : Str) : Prop := sc.names.lookup x = some .local ∨ sc.names.lookup x = some .cell ∨ sc.names.lookup x = some .free
def Loc (sc : Scope) (x : Str) : Prop := sc.names.lookup x = some .local ∨ sc.names.lookup x = some .cell
def Look (env : Env) (h : Heap) (m : Str → Option Value) (x : Str) (u : Value) : Prop :=
  (env.kindOf x = some .local ∧ m x = some u) ∨ ((env.kindOf x = some .cell ∨ env.kindOf x = some .free) ∧ ∃ c, env.cells.lookup x = some c ∧ h.IsCell c (some u))
structure Cx.Ok (X : Cx) : Prop where
  mod : Mod X.K X.mg X.base
  kind : X.env.scope.kind = .function
  glob : X.env.globals = mainGlobals
  blt : X.env.builtins = builtinsNs
  above : X.s₀.heap.objs.size ≤ X.env.locals
  inj : ∀ x y c, X.env.cells.lookup x = some c → X.env.cells.lookup y = some c → x = y
  has : ∀ x, (X.env.kindOf x = some .cell ∨ X.env.kindOf x = some .free) → ∃ c, X.env.cells.lookup x = some c
  cab : ∀ x c, X.fn x = true → X.env.cells.lookup x = some c → X.s₀.heap.objs.size ≤ c
  hd : X.calm = true → X.A.handled = none
  frames : X.A.frames = some X.stack
  stk : X.stack = X.outer ∨ (X.stack = X.env :: X.outer ∧ X.env.frame = some X.env.locals)
  exf : ∀ b ∈ X.ex, b ≠ X.env.locals ∧ ∀ x c, X.env.cells.lookup x = some c → c ≠ b
  bs : ∀ b o, X.base.get? b = some o → X.s₀.heap.get? b = some o ∧ X.H₀ b = none
  bsz : X.base.objs.size ≤ X.s₀.heap.objs.size
  noex : ∀ b o, X.base.get? b = some o → b ∉ X.ex
  exfs : ∀ b ∈ X.ex, b ∉ X.fs
  funs : X.s₀.heap.FunFrames X.base X.outer
  frf : ∀ b ∈ X.fs, X.H₀ b = none
structure Inv (X : Cx) (pins : List (Addr × Obj)) (σ : List (Option V)) (H : Hp) (s : Shared) : Prop where
  ok : X.Ok
  os : s.os = X.s₀.os
  bare : AllBare s.gens
  base : Un X.fs X.ex X.H₀ H X.s₀.heap s.heap
  loc : ∃ m, s.heap.Ns X.env.locals m ∧ ∀ (i : Nat) (x : Str) (v : V), X.N[i]? = some x → σ[i]? = some (some v) → Vis X.env.scope x → ∃ u, RelV v u ∧ Look X.env s.heap m x u
  cell : ∀ x c, X.env.cells.lookup x = some c → ∃ v, s.heap.IsCell c v
  free : H X.env.locals = none
  freeC : ∀ x c, X.env.cells.lookup x = some c → H c = none
  pin : ∀ p ∈ X.pn ++ pins, s.heap.get? p.1 = some p.2 ∧ H p.1 = none ∧ p.1 ≠ X.env.locals ∧ p.1 ∉ X.fs ∧ ∀ v, p.2.data ≠ .cell v
  hok : HOk X.prog X.w H s.heap
  len : σ.length = X.N.length
section
variable {X : Cx} {pins : List (Addr × Obj)} {σ : List (Option V)} {H H' : Hp} {s : Shared} {h' : Heap}
theorem Cx.Ok.nofr (ok : X.Ok) {b : Addr} {o : Obj} (e : X.base.get? b = some o) : b ∉ X.fs := fun hb => by
  have := (ok.funs.mem hb).1
  rw [e] at this; cases this
theorem Inv.bs (I : Inv X pins σ H s) : ∀ b o, X.base.get? b = some o → s.heap.get? b = some o ∧ H b = none := fun b o e =>
  ⟨I.base.keep b o (I.ok.bs b o e).1 (I.ok.bs b o e).2 (I.ok.nofr e) (I.ok.noex b o e), I.base.free b o (I.ok.bs b o e).1 (I.ok.bs b o e).2 (I.ok.noex b o e)⟩
theorem Inv.bk (I : Inv X pins σ H s) : ∀ b o, X.base.get? b = some o → s.heap.get? b = some o := fun b o e => (I.bs b o e).1
theorem Inv.mod (I : Inv X pins σ H s) : Mod X.K X.mg X.base := I.ok.mod
theorem Inv.kIn (I : Inv X pins σ H s) : X.K.In s.heap := I.ok.mod.kin.keeps I.bk
theorem Inv.nolimit (I : Inv X pins σ H s) : s.heap.NoLimit := I.ok.mod.nolimit.keeps I.bk
theorem Inv.fr (I : Inv X pins σ H s) : ∃ m, Fr X.base X.env.locals s.heap m :=
  let ⟨m, hn, _⟩ := I.loc
  ⟨m, hn, I.bk, Nat.le_trans I.ok.bsz I.ok.above⟩
theorem Inv.lt (I : Inv X pins σ H s) : X.env.locals < s.heap.objs.size := let ⟨_, hn, _⟩ := I.loc; hn.lt
theorem Inv.sz (I : Inv X pins σ H s) : X.s₀.heap.objs.size ≤ s.heap.objs.size := Nat.le_trans I.ok.above (Nat.le_of_lt I.lt)
theorem Inv.nofs (I : Inv X pins σ H s) {a : Addr} (h : s.heap.objs.size ≤ a) : a ∉ X.fs := fun hb => by
  obtain ⟨_, o, ho, _⟩ := I.ok.funs.mem hb
  exact absurd (Nat.lt_of_lt_of_le (Heap.lt_size ho) (Nat.le_trans I.sz h)) (Nat.lt_irrefl _)
theorem Inv.cne (I : Inv X pins σ H s) : ∀ x c, X.env.cells.lookup x = some c → c ≠ X.env.locals := fun x c e z => by
  obtain ⟨v, o, ho, hd⟩ := I.cell x c e
  obtain ⟨m, ⟨o', es, ep, ho', hd', _⟩, _⟩ := I.loc
  rw [z, ho'] at ho; cases ho; rw [hd'] at hd; cases hd
theorem Inv.funs (I : Inv X pins σ H s) : s.heap.FunFrames X.base X.outer := by
  have all : ∀ (l : List Env), (∀ b ∈ frs l, b ∈ X.fs) → X.s₀.heap.FunFrames X.base l → s.heap.FunFrames X.base l := by
    intro l
    induction l with
    | nil => intro _ _; trivial
    | cons env r ih =>
      intro hs hl
      obtain ⟨hk, ⟨L, o, hf, hn, ho, hd⟩, hr⟩ := hl
      have hL : L ∈ X.fs := hs L (by unfold frs; rw [List.filterMap_cons, hf]; exact List.mem_cons_self)
      obtain ⟨sl, e⟩ := I.base.slot L o ho (I.ok.frf L hL) hL fun z => I.ok.exfs L z hL
      exact ⟨hk, ⟨L, _, hf, hn, e, hd⟩, ih (fun b hb => hs b (by unfold frs; rw [List.filterMap_cons, hf]; exact List.mem_cons_of_mem _ hb)) hr⟩
  exact all X.outer (fun _ hb => hb) I.ok.funs
theorem Inv.stack (I : Inv X pins σ H s) : s.heap.FunFrames X.base X.stack := by
  rcases I.ok.stk with e | ⟨e, hf⟩
  · rw [e]; exact I.funs
  · rw [e]
    obtain ⟨m, hn, _⟩ := I.loc
    refine .cons (by rw [I.ok.kind]; decide) hf hn ?_ I.funs
    exact Heap.get?_none_of_le (Nat.le_trans I.ok.bsz I.ok.above)
theorem Inv.stkSub (I : Inv X pins σ H s) : ∀ b ∈ frs X.stack, b ∈ X.env.locals :: X.fs := fun b hb => by
  rcases I.ok.stk with e | ⟨e, hf⟩
  · rw [e] at hb; exact List.mem_cons_of_mem _ hb
  · rw [e] at hb
    unfold frs at hb
    rw [List.filterMap_cons, hf] at hb
    exact hb
theorem Inv.stkFree (I : Inv X pins σ H s) : ∀ b ∈ frs X.stack, H b = none := fun b hb => by
  rcases List.mem_cons.mp (I.stkSub b hb) with e | hb
  · rw [e]; exact I.free
  · obtain ⟨_, o, ho, _⟩ := I.ok.funs.mem hb
    exact I.base.free b o ho (I.ok.frf b hb) fun z => I.ok.exfs b z hb
theorem Inv.step {g' : Array GenState} {t' : Nat} {d' : Drawn} {ch : List Addr} (I : Inv X pins σ H s)
    (hch : ∀ b ∈ ch, (b ∈ X.ex ∨ X.s₀.heap.objs.size ≤ b) ∧ b ≠ X.env.locals ∧ (∀ x c, X.env.cells.lookup x = some c → c ≠ b) ∧ ∀ p ∈ X.pn ++ pins, p.1 ≠ b)
    (keep : ∀ b o, b ≠ X.env.locals → b ∉ X.fs → b ∉ ch → s.heap.get? b = some o → H b = none → h'.get? b = some o)
    (slot : ∀ b o, b ≠ X.env.locals → b ∈ X.fs → b ∉ ch → s.heap.get? b = some o → H b = none → ∃ sl, h'.get? b = some { o with slots := sl }) (free : ∀ b o, b ∉ ch → s.heap.get? b = some o → H b = none → H' b = none)
    (there : ∀ b o, b ∉ ch → s.heap.get? b = some o → ∃ o', h'.get? b = some o')
    (tups : ∀ b xs, H b = some (.tup xs) → H' b = some (.tup xs)) (frzs : ∀ b o u, H b = some (.frz o u) → H' b = some (.frz o u)) (tbls : ∀ b ps, H b = some (.tbl ps) → ∃ more, H' b = some (.tbl (ps ++ more)))
    (ns : ∀ m, s.heap.Ns X.env.locals m → h'.Ns X.env.locals m) (hok : HOk X.prog X.w H' h') (hg : AllBare g') :
    Inv X pins σ H' { s with heap := h', gens := g', drawn := d', toks := t' } := by
  have neL : ∀ b o, X.s₀.heap.get? b = some o → b ≠ X.env.locals := fun b o e => Nat.ne_of_lt (Nat.lt_of_lt_of_le (Heap.lt_size e) I.ok.above)
  have neC : ∀ b o, X.s₀.heap.get? b = some o → b ∉ X.ex → b ∉ ch := fun b o e hx hb => by
    rcases (hch b hb).1 with z | z
    · exact hx z
    · exact absurd (Nat.lt_of_lt_of_le (Heap.lt_size e) z) (Nat.lt_irrefl _)
  have cellK : ∀ x c, X.env.cells.lookup x = some c → ∀ v, s.heap.IsCell c v → h'.IsCell c v := fun x c e v ⟨o, ho, hd⟩ => by
    have nch : c ∉ ch := fun z => (hch c z).2.2.1 x c e rfl
    by_cases hc : c ∈ X.fs
    · obtain ⟨sl, q⟩ := slot c o (I.cne x c e) hc nch ho (I.freeC x c e)
      exact ⟨_, q, hd⟩
    · exact ⟨o, keep c o (I.cne x c e) hc nch ho (I.freeC x c e), hd⟩
  refine ⟨I.ok, I.os, hg, ⟨fun b o e n hb hx => ?_, fun b o e n hb hx => ?_, fun b o e n hx => ?_, fun b o e hx => ?_, fun b xs e => tups b xs (I.base.tups b xs e), fun b o xs e => frzs b o xs (I.base.frzs b o xs e), fun b ps e => ?_⟩, ?_, fun x c e => ?_, ?_, fun x c e => ?_, fun p hp => ?_, hok, I.len⟩
  · exact keep b o (neL b o e) hb (neC b o e hx) (I.base.keep b o e n hb hx) (I.base.free b o e n hx)
  · obtain ⟨sl, e1⟩ := I.base.slot b o e n hb hx
    obtain ⟨sl', e2⟩ := slot b _ (neL b o e) hb (neC b o e hx) e1 (I.base.free b o e n hx)
    exact ⟨sl', e2⟩
  · obtain ⟨o', e1⟩ := I.base.there b o e hx
    exact free b o' (neC b o e hx) e1 (I.base.free b o e n hx)
  · obtain ⟨o', e1⟩ := I.base.there b o e hx
    exact there b o' (neC b o e hx) e1
  · obtain ⟨m1, e1⟩ := I.base.tbls b ps e
    obtain ⟨m2, e2⟩ := tbls b _ e1
    exact ⟨m1 ++ m2, by rw [e2, Array.append_assoc]⟩
  · obtain ⟨m, hn, hl⟩ := I.loc
    refine ⟨m, ns m hn, fun i x v e1 e2 e3 => ?_⟩
    obtain ⟨u, r, l⟩ := hl i x v e1 e2 e3
    refine ⟨u, r, ?_⟩
    rcases l with l | ⟨k, c, e, z⟩
    · exact .inl l
    · exact .inr ⟨k, c, e, cellK x c e _ z⟩
  · obtain ⟨v, z⟩ := I.cell x c e
    exact ⟨v, cellK x c e v z⟩
  · obtain ⟨m, ⟨o, _, _, ho, _⟩, _⟩ := I.loc
    exact free _ o (fun z => (hch _ z).2.1 rfl) ho I.free
  · obtain ⟨v, o, ho, hd⟩ := I.cell x c e
    exact free c o (fun z => (hch c z).2.2.1 x c e rfl) ho (I.freeC x c e)
  · obtain ⟨e, n, ne, nf, d⟩ := I.pin p hp
    have nch : p.1 ∉ ch := fun z => (hch p.1 z).2.2.2 p hp rfl
    exact ⟨keep p.1 p.2 ne nf nch e n, free p.1 p.2 nch e n, ne, nf, d⟩
theorem Inv.un {t' : Nat} (I : Inv X pins σ H s) (u : Un X.fs [] H H' s.heap h') (hok : HOk X.prog X.w H' h') : Inv X pins σ H' { s with heap := h', toks := t' } := by
  obtain ⟨m, ⟨o, es, ep, ho, r⟩, _⟩ := id I.loc
  obtain ⟨sl, hL⟩ := u.any ho I.free (by simp)
  exact I.step (g' := s.gens) (d' := s.drawn) (ch := []) (fun _ z => nomatch z) (fun b o _ hb _ e n => u.keep b o e n hb (by simp)) (fun b o _ hb _ e n => u.slot b o e n hb (by simp)) (fun b o _ e n => u.free b o e n (by simp)) (fun b o _ e => u.there b o e (by simp)) u.tups u.frzs u.tbls (fun m' hm => by
    obtain ⟨o', es', ep', ho', r'⟩ := hm
    rw [ho] at ho'; cases ho'
    exact ⟨_, es', ep', hL, r'⟩) hok I.bare
theorem Inv.call {g' : Array GenState} {t' : Nat} {d' : Drawn} {ch : List Addr} (I : Inv X pins σ H s) (u : Un (frs X.stack) ch H H' s.heap h') (hok : HOk X.prog X.w H' h') (hg : AllBare g')
    (hch : ∀ b ∈ ch, (b ∈ X.ex ∨ X.s₀.heap.objs.size ≤ b) ∧ b ≠ X.env.locals ∧ (∀ x c, X.env.cells.lookup x = some c → c ≠ b) ∧ ∀ p ∈ X.pn ++ pins, p.1 ≠ b) :
    Inv X pins σ H' { s with heap := h', gens := g', drawn := d', toks := t' } := by
  obtain ⟨m, ⟨o, es, ep, ho, r⟩, _⟩ := id I.loc
  obtain ⟨sl, hL⟩ := u.any ho I.free fun z => (hch _ z).2.1 rfl
  exact I.step (ch := ch) hch (fun b o hL hb hc e n => u.keep b o e n (fun z => (List.mem_cons.mp (I.stkSub b z)).elim hL hb) hc) (fun b o _ _ hc e n => u.any e n hc) (fun b o hc e n => u.free b o e n hc) (fun b o hc e => u.there b o e hc) u.tups u.frzs u.tbls (fun m' hm => by
    obtain ⟨o', es', ep', ho', r'⟩ := hm
    rw [ho] at ho'; cases ho'
    exact ⟨_, es', ep', hL, r'⟩) hok hg
theorem Inv.turned {t' : Nat} {it : Addr} (I : Inv X pins σ H s) (k : ∀ b o, b ≠ it → s.heap.get? b = some o → h'.get? b = some o) (hn : H it = none) (hL : it ≠ X.env.locals)
    (h1 : it ∈ X.ex ∨ X.s₀.heap.objs.size ≤ it) (h2 : ∀ x c, X.env.cells.lookup x = some c → c ≠ it) (h3 : ∀ p ∈ X.pn ++ pins, p.1 ≠ it) : Inv X pins σ H { s with heap := h', toks := t' } := by
  have nit : ∀ b u, H b = some u → b ≠ it := fun b u e z => by rw [z, hn] at e; cases e
  refine I.step (g' := s.gens) (d' := s.drawn) (ch := [it]) (fun b hb => ?_) (fun b o _ _ hc e _ => k b o (fun z => hc (by simp [z])) e) (fun b o _ _ hc e _ => ⟨o.slots, k b o (fun z => hc (by simp [z])) e⟩) (fun _ _ _ _ n => n)
    (fun b o hc e => ⟨o, k b o (fun z => hc (by simp [z])) e⟩) (fun _ _ e => e) (fun _ _ _ e => e) (fun b ps e => ⟨#[], by rw [e]; simp⟩) (fun m hm => ?_) (fun b u e => ?_) I.bare
  · have e : b = it := by simpa using hb
    subst e
    exact ⟨h1, hL, h2, h3⟩
  · obtain ⟨o, es, ep, ho, r⟩ := hm
    exact ⟨o, es, ep, k _ o (Ne.symm hL) ho, r⟩
  · refine (I.hok b u e).stay (fun c v hc q => k c v ?_ q) (fun _ q => q) fun _ _ q => q
    rcases hc with z | z
    · rw [z]; exact nit b u e
    · exact nit c _ z
theorem Inv.tok (I : Inv X pins σ H s) (t : Nat) : Inv X pins σ H { s with toks := t } := I.un (h' := s.heap) (t' := t) Un.refl I.hok
theorem Inv.kept {t' : Nat} (I : Inv X pins σ H s) (k : ∀ b u, s.heap.get? b = some u → h'.get? b = some u) : Inv X pins σ H { s with heap := h', toks := t' } := I.un (Un.kept k) (I.hok.kept k)
theorem Inv.laid {a : Addr} {o : HO} {t' : Nat} (I : Inv X pins σ H s) (k : ∀ b u, s.heap.get? b = some u → h'.get? b = some u) (hp : s.heap.objs.size ≤ a) (new : ObjOk X.prog X.w (upd H a o) h' a o) :
    Inv X pins σ (upd H a o) { s with heap := h', toks := t' } := I.un (Un.laid k hp (I.hok.fresh hp)) (I.hok.laid k hp new)
theorem Inv.write {x e : Addr} {o : HO} {t' : Nat} (I : Inv X pins σ H s) (mu : Mut (H x)) (he : e = x ∨ H e = some (.own x)) (k : ∀ b u, b ≠ e → s.heap.get? b = some u → h'.get? b = some u) (heo : ∃ u, h'.get? e = some u)
    (new : ObjOk X.prog X.w (upd H x o) h' x o) : Inv X pins σ (upd H x o) { s with heap := h', toks := t' } := I.un (Un.write mu he k heo) (I.hok.write mu he k heo new)
theorem Inv.weak {σ' : List (Option V)} (I : Inv X pins σ H s) (hl : σ'.length = σ.length) (w : ∀ (i : Nat) v, σ'[i]? = some (some v) → σ[i]? = some (some v)) : Inv X pins σ' H s :=
  ⟨I.ok, I.os, I.bare, I.base, let ⟨m, hn, hl'⟩ := I.loc; ⟨m, hn, fun i x v e1 e2 e3 => hl' i x v e1 (w i v e2) e3⟩, I.cell, I.free, I.freeC, I.pin, I.hok, hl.trans I.len⟩
theorem Inv.pins_of {pins' : List (Addr × Obj)} (I : Inv X pins σ H s) (h : ∀ p ∈ pins', s.heap.get? p.1 = some p.2 ∧ H p.1 = none ∧ p.1 ≠ X.env.locals ∧ p.1 ∉ X.fs ∧ ∀ v, p.2.data ≠ .cell v) : Inv X pins' σ H s :=
  ⟨I.ok, I.os, I.bare, I.base, I.loc, I.cell, I.free, I.freeC, fun p hp => (List.mem_append.mp hp).elim (fun z => I.pin p (List.mem_append_left _ z)) (h p), I.hok, I.len⟩
theorem nodup_ix {N : List Str} (hN : N.Nodup) {i j : Nat} {x : Str} (a : N[i]? = some x) (b : N[j]? = some x) : i = j := by
  obtain ⟨h1, e1⟩ := List.getElem?_eq_some_iff.mp a
  obtain ⟨h2, e2⟩ := List.getElem?_eq_some_iff.mp b
  exact (List.getElem_inj hN).mp (e1.trans e2.symm)
theorem store_ok2 {M : Model} {A : Around} {E : Value → Shared → Prop} {i : Nat} {x : Str} {v : V} {u : Value} {Q : Unit → Shared → Prop} (I : Inv X pins σ H s) (hN : X.N.Nodup) (hi : X.N[i]? = some x) (hx : Loc X.env.scope x) (r : RelV v u)
    (h : ∀ s', Inv X pins (σ.set i (some v)) H s' → (∃ a, Heap.SameBut a s.heap s'.heap ∧ (a = X.env.locals ∨ X.env.cells.lookup x = some a)) → Q () s') (hf : X.fn x = true ∨ X.env.scope.names.lookup x = some .local := by first | exact .inl rfl | exact .inr rfl | assumption) : wpAny M A (storeName X.env x u) Q E s := by
  obtain ⟨m, hn, hl⟩ := id I.loc
  have hcls : (X.env.scope.kind == .class || (X.env.scope.kind == .module && X.env.locals != X.env.globals)) = false := by rw [I.ok.kind]; rfl
  have hiσ : i < σ.length := by rw [I.len]; exact (List.getElem?_eq_some_iff.mp hi).1
  have cne := I.cne
  have tracked : ∀ {a : Addr} {h' : Heap}, (∃ o, s.heap.get? a = some o ∧ H a = none) → Heap.SameBut a s.heap h' → HOk X.prog X.w H h' := fun {a h'} ha hs b ob e => by
    obtain ⟨_, _, hfree⟩ := ha
    refine (I.hok b ob e).stay (fun c w' hc q => (hs.2 c ?_).trans q) (fun _ q => q) fun _ _ q => q
    rintro rfl
    rcases hc with rfl | hc
    · rw [hfree] at e; cases e
    · rw [hfree] at hc; cases hc
  rcases hx with hk | hk
  · refine wpAny_storeName_local hk hn (fun h' hn' hs => ?_) hcls
    obtain ⟨oL, _, _, hoL, _⟩ := id hn
    refine h _ ⟨I.ok, I.os, I.bare, ⟨fun b o e n hb hx => ?_, fun b o e n hb hx => ?_, I.base.free, fun b o e hx => ?_, I.base.tups, I.base.frzs, I.base.tbls⟩, ⟨_, hn', fun j y v' e1 e2 e3 => ?_⟩, fun y c e => ?_, I.free, I.freeC, fun p hp => ?_, tracked ⟨oL, hoL, I.free⟩ hs, by simpa using I.len⟩ ⟨_, hs, .inl rfl⟩
    · exact (hs.2 b (Nat.ne_of_lt (Nat.lt_of_lt_of_le (Heap.lt_size e) I.ok.above))).trans (I.base.keep b o e n hb hx)
    · obtain ⟨sl, e1⟩ := I.base.slot b o e n hb hx
      exact ⟨sl, (hs.2 b (Nat.ne_of_lt (Nat.lt_of_lt_of_le (Heap.lt_size e) I.ok.above))).trans e1⟩
    · obtain ⟨o', e1⟩ := I.base.there b o e hx
      exact ⟨o', (hs.2 b (Nat.ne_of_lt (Nat.lt_of_lt_of_le (Heap.lt_size e) I.ok.above))).trans e1⟩
    · by_cases hj : j = i
      · subst hj
        rw [hi] at e1; cases e1
        rw [List.getElem?_set_self hiσ] at e2
        cases e2
        exact ⟨u, r, .inl ⟨hk, by simp⟩⟩
      · rw [List.getElem?_set_ne (Ne.symm hj)] at e2
        obtain ⟨u', r', q⟩ := hl j y v' e1 e2 e3
        refine ⟨u', r', ?_⟩
        rcases q with ⟨k, e⟩ | ⟨k, c, e, z⟩
        · refine .inl ⟨k, ?_⟩
          have : y ≠ x := fun e => hj (nodup_ix hN e1 (e ▸ hi))
          simp [this, e]
        · exact .inr ⟨k, c, e, z.sameBut hs (cne y c e)⟩
    · obtain ⟨w', z⟩ := I.cell y c e
      exact ⟨w', z.sameBut hs (cne y c e)⟩
    · obtain ⟨e, n, ne, nf, d⟩ := I.pin p hp
      exact ⟨(hs.2 p.1 ne).trans e, n, ne, nf, d⟩
  · have hfn : X.fn x = true := by
      rcases hf with z | z
      · exact z
      · rw [z] at hk; cases hk
    obtain ⟨c, hc⟩ := I.ok.has x (.inl hk)
    obtain ⟨w', z⟩ := I.cell x c hc
    refine wpAny_storeName_cell I.ok.kind hk hc z (fun h' hc' hs => ?_)
    obtain ⟨oc, hoc, hocd⟩ := id z
    refine h { s with heap := h' } ⟨I.ok, I.os, I.bare, ⟨fun b o e n hb hx => ?_, fun b o e n hb hx => ?_, I.base.free, fun b o e hx => ?_, I.base.tups, I.base.frzs, I.base.tbls⟩, ⟨m, hn.sameBut hs (Ne.symm (cne x c hc)), fun j y v' e1 e2 e3 => ?_⟩, fun y c' e => ?_, I.free, I.freeC, fun p hp => ?_, tracked ⟨oc, hoc, I.freeC x c hc⟩ hs, by simpa using I.len⟩ ⟨c, hs, .inr hc⟩
    · exact (hs.2 b (Nat.ne_of_lt (Nat.lt_of_lt_of_le (Heap.lt_size e) (I.ok.cab x c hfn hc)))).trans (I.base.keep b o e n hb hx)
    · obtain ⟨sl, e1⟩ := I.base.slot b o e n hb hx
      exact ⟨sl, (hs.2 b (Nat.ne_of_lt (Nat.lt_of_lt_of_le (Heap.lt_size e) (I.ok.cab x c hfn hc)))).trans e1⟩
    · obtain ⟨o', e1⟩ := I.base.there b o e hx
      exact ⟨o', (hs.2 b (Nat.ne_of_lt (Nat.lt_of_lt_of_le (Heap.lt_size e) (I.ok.cab x c hfn hc)))).trans e1⟩
    · by_cases hj : j = i
      · subst hj
        rw [hi] at e1; cases e1
        rw [List.getElem?_set_self hiσ] at e2
        cases e2
        exact ⟨u, r, .inr ⟨.inl hk, c, hc, hc'⟩⟩
      · rw [List.getElem?_set_ne (Ne.symm hj)] at e2
        obtain ⟨u', r', q⟩ := hl j y v' e1 e2 e3
        refine ⟨u', r', ?_⟩
        rcases q with q | ⟨k, c', e, z'⟩
        · exact .inl q
        · refine .inr ⟨k, c', e, z'.sameBut hs ?_⟩
          rintro rfl
          exact hj (nodup_ix hN e1 (I.ok.inj _ _ _ e hc ▸ hi))
    · by_cases hcc : c' = c
      · subst hcc; exact ⟨_, hc'⟩
      · obtain ⟨w2, z2⟩ := I.cell y c' e
        exact ⟨w2, z2.sameBut hs hcc⟩
    · obtain ⟨e, n, ne, nf, d⟩ := I.pin p hp
      refine ⟨(hs.2 p.1 ?_).trans e, n, ne, nf, d⟩
      intro q
      rw [q, hoc] at e
      have q' : oc = p.2 := Option.some.inj e
      exact d w' (by rw [← q']; exact hocd)
theorem store_ok {M : Model} {A : Around} {E : Value → Shared → Prop} {i : Nat} {x : Str} {v : V} {u : Value} {Q : Unit → Shared → Prop} (I : Inv X pins σ H s) (hN : X.N.Nodup) (hi : X.N[i]? = some x) (hx : Loc X.env.scope x) (r : RelV v u)
    (h : ∀ s', Inv X pins (σ.set i (some v)) H s' → Q () s') (hf : X.fn x = true ∨ X.env.scope.names.lookup x = some .local := by first | exact .inl rfl | exact .inr rfl | assumption) : wpAny M A (storeName X.env x u) Q E s :=
  store_ok2 I hN hi hx r (fun s' I' _ => h s' I') hf
end
abbrev XK := Value → Option Addr → Hp → Prop
abbrev St := List (Option V)
abbrev VK := V → Hp → Prop
abbrev TE := St → Hp → VK → Prop
abbrev TT := St → Hp → (Bool → Hp → Prop) → Prop
abbrev TA := St → Hp → (List V → Hp → Prop) → Prop
structure Ends where
  nx : St → Hp → Prop
  rt : VK
  bk : St → Hp → Prop := fun _ _ => False
  ct : St → Hp → Prop := fun _ _ => False
abbrev TS := Ends → St → Hp → Prop
def EP (X : Cx) (pins : List (Addr × Obj)) (σ : St) (Q : VK) (u : Value) (s' : Shared) : Prop := ∃ v H', Inv X pins σ H' s' ∧ RelV v u ∧ Q v H'
def TP (X : Cx) (pins : List (Addr × Obj)) (σ : St) (Q : Bool → Hp → Prop) (b : Bool) (s' : Shared) : Prop := ∃ H', Inv X pins σ H' s' ∧ Q b H'
def AP (X : Cx) (pins : List (Addr × Obj)) (σ : St) (Q : List V → Hp → Prop) (us : List Value) (s' : Shared) : Prop := ∃ vs H', Inv X pins σ H' s' ∧ Vals vs us ∧ Q vs H'
def SP (X : Cx) (pins : List (Addr × Obj)) (D : Ends) (f : Flow) (s' : Shared) : Prop :=
  match f with
  | .next => ∃ σ' H', Inv X pins σ' H' s' ∧ D.nx σ' H'
  | .brk => ∃ σ' H', Inv X pins σ' H' s' ∧ D.bk σ' H'
  | .cont => ∃ σ' H', Inv X pins σ' H' s' ∧ D.ct σ' H'
  | .ret u => ∃ v σ' H', Inv X pins σ' H' s' ∧ RelV v u ∧ D.rt v H'
def PE (X : Cx) (e : Expr) (t : TE) : Prop :=
  ∀ (pins : List (Addr × Obj)) (s : Shared) (σ : St) (H : Hp) (Q : VK), Inv X pins σ H s → t σ H Q → wpAny (model X.prog X.w) X.A (eval e X.env) (EP X pins σ Q) X.xe s
def PT (X : Cx) (e : Expr) (t : TT) : Prop :=
  ∀ (pins : List (Addr × Obj)) (s : Shared) (σ : St) (H : Hp) (Q : Bool → Hp → Prop), Inv X pins σ H s → t σ H Q → wpAny (model X.prog X.w) X.A (isTrue e X.env (eval e X.env)) (TP X pins σ Q) X.xe s
def PW (X : Cx) (e : Expr) (t : TT) : Prop :=
  ∀ (whole : Sem Value) (pins : List (Addr × Obj)) (s : Shared) (σ : St) (H : Hp) (Q : Bool → Hp → Prop), Inv X pins σ H s → t σ H Q → wpAny (model X.prog X.w) X.A (isTrue e X.env whole) (TP X pins σ Q) X.xe s
theorem PW.pt {X : Cx} {e : Expr} {t : TT} (h : PW X e t) : PT X e t := h _
def PA (X : Cx) (es : List Expr) (t : TA) : Prop :=
  ∀ (pos : Pos) (pins : List (Addr × Obj)) (s : Shared) (σ : St) (H : Hp) (Q : List V → Hp → Prop), Inv X pins σ H s → t σ H Q → wpAny (model X.prog X.w) X.A (spliced (backTo pos (starEach es X.env))) (AP X pins σ Q) X.xe s
def PS (X : Cx) (st : Stmt) (t : TS) : Prop :=
  ∀ (pins : List (Addr × Obj)) (s : Shared) (σ : St) (H : Hp) (D : Ends), Inv X pins σ H s → t D σ H → wpAny (model X.prog X.w) X.A (exec st X.env) (SP X pins D) X.xe s
def PSs (X : Cx) (st : List Stmt) (t : TS) : Prop :=
  ∀ (pins : List (Addr × Obj)) (s : Shared) (σ : St) (H : Hp) (D : Ends), Inv X pins σ H s → t D σ H → wpAny (model X.prog X.w) X.A (execs st X.env) (SP X pins D) X.xe s
theorem thn {α : Type} {t : Sem α} {Q Q' : α → Shared → Prop} {M : Model} {A : Around} {E : Value → Shared → Prop} {s : Shared} (h : wpAny M A t Q E s) (hQ : ∀ a s, Q a s → Q' a s) : wpAny M A t Q' E s := wpAny_mono h hQ fun _ _ x => x
end L2
namespace L2
open PySem PySem.Spec PyProof.Rows
section
variable {X : Cx}
def tVar (i : Nat) : TE := fun σ H Q => ∃ v, σ[i]? = some (some v) ∧ Q v H
def tC (v : V) : TE := fun _ H Q => Q v H
theorem pe_var {i : Nat} {x : Str} {pos : Pos} (hN : X.N[i]? = some x) (hv : Vis X.env.scope x) (hd : (x == ("__debug__" : Str)) = false := by decide) (hcd : (x == ("__classdict__" : Str)) = false := by decide) : PE X (.Name x pos) (tVar i) := by
  intro pins s σ H Q I h
  obtain ⟨v, e, h⟩ := h
  obtain ⟨m, hn, hl⟩ := I.loc
  obtain ⟨u, r, l⟩ := hl i x v hN e hv
  have fin : EP X pins σ Q u s := ⟨v, H, I, r, h⟩
  rcases l with ⟨hk, hm⟩ | ⟨hk, c, hc, hcell⟩
  · exact wpAny_Name (wpAny_loadName_local I.ok.kind hk hn hm fin) hd
  · rcases hk with hk | hk
    · exact wpAny_Name (wpAny_loadName_cell I.ok.kind hk hc hcell fin) hd
    · exact wpAny_Name (wpAny_loadName_free I.ok.kind hk hc hcell fin hcd) hd
theorem pe_int {i j pos} : PE X (.Constant (.int i) j pos) (tC (.int i)) := fun _ _ _ H _ I h => wpAny_Constant_int ⟨.int i, H, I.tok _, ⟨_, rfl⟩, h⟩
theorem pe_bl {b j pos} : PE X (.Constant (.bool b) j pos) (tC (.bl b)) := fun _ _ _ H _ I h => Constant_bool ⟨.bl b, H, I, rfl, h⟩
theorem pe_non {j pos} : PE X (.Constant .none j pos) (tC .non) := fun _ _ _ H _ I h => Constant_none ⟨.non, H, I, rfl, h⟩
theorem pe_str {x j pos} : PE X (.Constant (.str x) j pos) (tC (.str x)) := fun _ _ _ H _ I h => Calls.Constant_str ⟨.str x, H, I.tok _, ⟨_, rfl⟩, h⟩
def Gl (X : Cx) (x : Str) : Prop := X.env.kindOf x = some .globalImplicit
theorem ld_glob {E : Value → Shared → Prop} {pins : List (Addr × Obj)} {s : Shared} {σ : St} {H : Hp} {x : Str} {u : Value} {pos : Pos} {Q : Value → Shared → Prop} (I : Inv X pins σ H s) (hg : Gl X x) (hm : X.mg x = some u) (h : Q u s)
    (hd : (x == ("__debug__" : Str)) = false := by decide) : wpAny (model X.prog X.w) X.A (eval (.Name x pos) X.env) Q E s :=
  Calls.Name_function_global I.ok.kind hg (Calls.loadGlobal_global (by rw [I.ok.glob]; exact I.mod.glob.keeps I.bk) hm h) hd
theorem ld_blt {E : Value → Shared → Prop} {pins : List (Addr × Obj)} {s : Shared} {σ : St} {H : Hp} {x : Str} {u : Value} {pos : Pos} {Q : Value → Shared → Prop} (I : Inv X pins σ H s) (hg : Gl X x) (hm : X.mg x = none) (hv : bootBuiltins x = some u) (h : Q u s)
    (hn : x ≠ "__name__" := by decide) (hd : (x == ("__debug__" : Str)) = false := by decide) : wpAny (model X.prog X.w) X.A (eval (.Name x pos) X.env) Q E s := by
  obtain ⟨mb, h1, h2⟩ := I.mod.blt
  exact Calls.Name_function_global I.ok.kind hg (Calls.loadGlobal_builtin (by rw [I.ok.glob]; exact I.mod.glob.keeps I.bk) hm (by rw [I.ok.blt]; exact h1.keeps I.bk) ((h2 x hn).trans hv) h) hd
theorem pe_glob {x : Str} {v : V} {u : Value} {pos : Pos} (hg : Gl X x) (hm : X.mg x = some u) (r : RelV v u) (hd : (x == ("__debug__" : Str)) = false := by decide) : PE X (.Name x pos) (tC v) :=
  fun _ _ _ H _ I h => ld_glob I hg hm ⟨v, H, I, r, h⟩ hd
theorem pe_bltn {x : Str} {v : V} {u : Value} {pos : Pos} (hg : Gl X x) (hm : X.mg x = none) (hv : bootBuiltins x = some u) (r : RelV v u) (hn : x ≠ "__name__" := by decide) (hd : (x == ("__debug__" : Str)) = false := by decide) : PE X (.Name x pos) (tC v) :=
  fun _ _ _ H _ I h => ld_blt I hg hm hv ⟨v, H, I, r, h⟩ hn hd
variable {a b : Expr} {ta tb : TE} {pos : Pos}
def tB (t : TE) : TT := fun σ H Q => t σ H fun x H1 => ∃ c, x = .bl c ∧ Q c H1
variable {tA tB' : TT} {rest : List Expr}
def tAnd (t u : TT) : TT := fun σ H Q => t σ H fun c H1 => if c = true then u σ H1 Q else Q false H1
def tOr (t u : TT) : TT := fun σ H Q => t σ H fun c H1 => if c = true then Q true H1 else u σ H1 Q
def tNot (t : TT) : TT := fun σ H Q => t σ H fun c H1 => Q (!c) H1
theorem pw_and1 (ha : PT X a tA) : PW X (.BoolOp .And [a] pos) tA := by
  intro wh pins s σ H Q I h
  refine isTrue_and (thn (ha pins s σ H Q I h) fun c s1 e => ?_)
  cases c with
  | true => exact isTrue_and_nil e
  | false => exact e
theorem pw_or1 (ha : PT X a tA) : PW X (.BoolOp .Or [a] pos) tA := by
  intro wh pins s σ H Q I h
  refine isTrue_or (thn (ha pins s σ H Q I h) fun c s1 e => ?_)
  cases c with
  | false => exact isTrue_or_nil e
  | true => exact e
theorem pw_and (ha : PT X a tA) (hb : PW X (.BoolOp .And (b :: rest) pos) tB') : PW X (.BoolOp .And (a :: b :: rest) pos) (tAnd tA tB') := by
  intro wh pins s σ H Q I h
  refine isTrue_and (thn (ha pins s σ H _ I h) fun c s1 ⟨H1, I1, q1⟩ => ?_)
  cases c with
  | true => exact hb wh pins s1 σ H1 Q I1 q1
  | false => exact ⟨H1, I1, q1⟩
theorem pw_or (ha : PT X a tA) (hb : PW X (.BoolOp .Or (b :: rest) pos) tB') : PW X (.BoolOp .Or (a :: b :: rest) pos) (tOr tA tB') := by
  intro wh pins s σ H Q I h
  refine isTrue_or (thn (ha pins s σ H _ I h) fun c s1 ⟨H1, I1, q1⟩ => ?_)
  cases c with
  | true => exact ⟨H1, I1, q1⟩
  | false => exact hb wh pins s1 σ H1 Q I1 q1
theorem pt_not (ha : PT X a tA) : PT X (.UnaryOp .Not a pos) (tNot tA) := by
  intro pins s σ H Q I h
  exact isTrue_not (ha pins s σ H (fun c H1 => Q (!c) H1) I h)
def tAndV (ta tb : TE) : TE := fun σ H Q => ta σ H fun x H1 => ∃ c, x = .bl c ∧ if c = true then tb σ H1 Q else Q (.bl false) H1
def tNotV (ta : TE) : TE := fun σ H Q => ta σ H fun x H1 => ∃ c, x = .bl c ∧ Q (.bl (!c)) H1
theorem pe_one {op} {t : TE} (h : PE X a t) : PE X (.BoolOp op [a] pos) t := fun pins s σ H Q I hw => BoolOp_one (h pins s σ H Q I hw)
theorem pe_and (ha : PE X a ta) (hb : PE X (.BoolOp .And (b :: rest) pos) tb) : PE X (.BoolOp .And (a :: b :: rest) pos) (tAndV ta tb) := by
  intro pins s σ H Q I h
  refine BoolOp_and (thn (ha pins s σ H _ I h) fun v s1 ⟨x, H1, I1, r1, q1⟩ => ?_)
  obtain ⟨c, rfl, q1⟩ := q1
  cases r1
  refine wpAny_truthy_bool ?_
  cases c with
  | true => exact hb pins s1 σ H1 Q I1 q1
  | false => exact ⟨.bl false, H1, I1, rfl, q1⟩
theorem pe_not (ha : PE X a ta) : PE X (.UnaryOp .Not a pos) (tNotV ta) := by
  intro pins s σ H Q I h
  refine UnaryOp_ (thn (ha pins s σ H _ I h) fun v s1 ⟨x, H1, I1, r1, q1⟩ => ?_)
  obtain ⟨c, rfl, q1⟩ := q1
  cases r1
  exact not_of (wpAny_truthy_bool ⟨.bl (!c), H1, I1, rfl, q1⟩)
end
end L2
namespace L2
open PySem PySem.Spec PyProof.Rows
def SqL (K : PySem.W.Frag) (H : Hp) (a : Addr) (xs : List V) : Prop :=
  Rd H a (.lst xs) ∨
    ∃ (o : Obj) (its : Array Value) (n : Nat), K.lookup a = some o ∧ o.cls = .type "list" ∧ o.dict = none ∧ o.data = .seq its n ∧ its.size ≤ sizeLine ∧ Vals xs its.toList
def SqT (K : PySem.W.Frag) (H : Hp) (a : Addr) (xs : List V) : Prop :=
  Rd H a (.tup xs) ∨
    ∃ (o : Obj) (its : Array Value) (n : Nat), K.lookup a = some o ∧ o.cls = .type "tuple" ∧ o.data = .seq its n ∧ its.size ≤ sizeLine ∧ Vals xs its.toList
def absV : Value → Option V
  | .none => some .non
  | .bool b => some (.bl b)
  | .int i _ => some (.int i)
  | .str x _ => some (.str x)
  | .bytes b _ => some (.byt b)
  | .float b _ => some (.flt b)
  | .ref a => some (.ref a)
  | .type n => some (.ty n)
  | _ => none
theorem RelV.abs {x : V} {u : Value} (r : RelV x u) : absV u = some x := by
  cases x with
  | non => cases r; rfl
  | bl _ => cases r; rfl
  | int _ => obtain ⟨t, rfl⟩ := r; rfl
  | str _ => obtain ⟨t, rfl⟩ := r; rfl
  | byt _ => obtain ⟨t, rfl⟩ := r; rfl
  | flt _ => obtain ⟨t, rfl⟩ := r; rfl
  | ref _ => cases r; rfl
  | ty _ => cases r; rfl
theorem RelV.inj {x y : V} {u : Value} (r : RelV x u) (q : RelV y u) : x = y := Option.some.inj (r.abs.symm.trans q.abs)
theorem Vals.inj : ∀ {xs ys : List V} {us : List Value}, Vals xs us → Vals ys us → xs = ys
  | _, _, _, .nil, .nil => rfl
  | _, _, _, .cons r t, .cons r' t' => by rw [r.inj r', Vals.inj t t']
section
variable {X : Cx} {pins : List (Addr × Obj)} {σ : St} {H : Hp} {s : Shared} {a : Addr} {xs ys : List V}
theorem SqL.of {K : PySem.W.Frag} (h : H a = some (.lst xs)) : SqL K H a xs := .inl (.inl h)
theorem SqT.of {K : PySem.W.Frag} (h : H a = some (.tup xs)) : SqT K H a xs := .inl (.inl h)
theorem Inv.list (I : Inv X pins σ H s) (h : SqL X.K H a xs) : ∃ its : List Value, Vals xs its ∧ PlainL s.heap a its.toArray ∧ xs.length ≤ sizeLine := by
  rcases h with h | ⟨o, its, n, hk, hc, hd, hs, hz, r⟩
  · obtain ⟨z, its, n, r, e⟩ := h.ok I.hok
    exact ⟨its, r, ⟨_, n, e, rfl, rfl, rfl⟩, z⟩
  · refine ⟨its.toList, r, ⟨o, n, I.kIn a o hk, hc, hd, by simpa using hs⟩, ?_⟩
    have e := r.length
    simp only [Array.length_toList] at e
    omega
theorem Inv.tuple (I : Inv X pins σ H s) (h : SqT X.K H a xs) : ∃ its : List Value, Vals xs its ∧ IsTup s.heap a its.toArray ∧ xs.length ≤ sizeLine := by
  rcases h with h | ⟨o, its, n, hk, hc, hs, hz, r⟩
  · obtain ⟨z, its, r, p⟩ := h.ok I.hok
    exact ⟨its, r, p, z⟩
  · refine ⟨its.toList, r, ⟨o, I.kIn a o hk, hc, n, by simpa using hs⟩, ?_⟩
    have e := r.length
    simp only [Array.length_toList] at e
    omega
theorem Inv.list_inj (I : Inv X pins σ H s) (h : SqL X.K H a xs) (h' : SqL X.K H a ys) : xs = ys := by
  obtain ⟨its, r, ⟨o, n, e, _, _, d⟩, _⟩ := I.list h
  obtain ⟨its', r', ⟨o', n', e', _, _, d'⟩, _⟩ := I.list h'
  rw [e] at e'; cases e'
  rw [d] at d'
  injection d' with d1 _
  have : its = its' := by simpa using congrArg Array.toList d1
  subst this
  exact r.inj r'
theorem Inv.tuple_inj (I : Inv X pins σ H s) (h : SqT X.K H a xs) (h' : SqT X.K H a ys) : xs = ys := by
  obtain ⟨its, r, ⟨o, e, _, n, d⟩, _⟩ := I.tuple h
  obtain ⟨its', r', ⟨o', e', _, n', d'⟩, _⟩ := I.tuple h'
  rw [e] at e'; cases e'
  rw [d] at d'
  injection d' with d1 _
  have : its = its' := by simpa using congrArg Array.toList d1
  subst this
  exact r.inj r'
end
abbrev Cx.wish (X : Cx) (E : Value → Shared → Prop) : Cx := { X with xe := E }
abbrev Cx.nox (X : Cx) : Cx := X.wish fun _ _ => False
theorem Cx.Ok.wish {X : Cx} (ok : X.Ok) (E : Value → Shared → Prop) : (X.wish E).Ok :=
  ⟨ok.mod, ok.kind, ok.glob, ok.blt, ok.above, ok.inj, ok.has, ok.cab, ok.hd, ok.frames, ok.stk, ok.exf, ok.bs, ok.bsz, ok.noex, ok.exfs, ok.funs, ok.frf⟩
theorem Cx.Ok.unwish {X : Cx} {E : Value → Shared → Prop} (ok : (X.wish E).Ok) : X.Ok :=
  ⟨ok.mod, ok.kind, ok.glob, ok.blt, ok.above, ok.inj, ok.has, ok.cab, ok.hd, ok.frames, ok.stk, ok.exf, ok.bs, ok.bsz, ok.noex, ok.exfs, ok.funs, ok.frf⟩
section
variable {X : Cx} {pins : List (Addr × Obj)} {σ : St} {H : Hp} {s : Shared} {E : Value → Shared → Prop}
theorem Inv.wish (I : Inv X pins σ H s) (E : Value → Shared → Prop) : Inv (X.wish E) pins σ H s := ⟨I.ok.wish E, I.os, I.bare, I.base, I.loc, I.cell, I.free, I.freeC, I.pin, I.hok, I.len⟩
theorem Inv.unwish (I : Inv (X.wish E) pins σ H s) : Inv X pins σ H s := ⟨I.ok.unwish, I.os, I.bare, I.base, I.loc, I.cell, I.free, I.freeC, I.pin, I.hok, I.len⟩
theorem SP.unwish {D : Ends} {f : Flow} {s' : Shared} (h : SP (X.wish E) pins D f s') : SP X pins D f s' := by
  cases f with
  | next => obtain ⟨σ', H', I, q⟩ := h; exact ⟨σ', H', I.unwish, q⟩
  | brk => obtain ⟨σ', H', I, q⟩ := h; exact ⟨σ', H', I.unwish, q⟩
  | cont => obtain ⟨σ', H', I, q⟩ := h; exact ⟨σ', H', I.unwish, q⟩
  | ret u => obtain ⟨v, σ', H', I, r, q⟩ := h; exact ⟨v, σ', H', I.unwish, r, q⟩
theorem PE.nox {e : Expr} {t : TE} (h : PE X.nox e t) : PE X e t := fun pins s σ H Q I hw =>
  wpAny_mono (h pins s σ H Q (I.wish _) hw) (fun _ _ ⟨v, H', I', r, q⟩ => ⟨v, H', I'.unwish, r, q⟩) fun _ _ z => False.elim z
theorem PT.nox {e : Expr} {t : TT} (h : PT X.nox e t) : PT X e t := fun pins s σ H Q I hw =>
  wpAny_mono (h pins s σ H Q (I.wish _) hw) (fun _ _ ⟨H', I', q⟩ => ⟨H', I'.unwish, q⟩) fun _ _ z => False.elim z
theorem PSs.nox {st : List Stmt} {t : TS} (h : PSs X.nox st t) : PSs X st t := fun pins s σ H D I hw =>
  wpAny_mono (h pins s σ H D (I.wish _) hw) (fun _ _ q => q.unwish) fun _ _ z => False.elim z
end
section
variable {X : Cx} {st : Stmt} {rest : List Stmt} {t u : TS} {e : Expr} {te : TE} {pos : Pos}
def tNext : TS := fun D σ H => D.nx σ H
def tSeq (t u : TS) : TS := fun D σ H => t { D with nx := u D } σ H
theorem pss_nil : PSs X [] tNext := fun _ _ σ H _ I h => wpAny_execs_nil ⟨σ, H, I, h⟩
theorem pss_cons (h1 : PS X st t) (h2 : PSs X rest u) : PSs X (st :: rest) (tSeq t u) := by
  intro pins s σ H D I h
  refine wpAny_execs_cons (thn (h1 pins s σ H { D with nx := u D } I h) fun f s1 q => ?_)
  cases f with
  | next =>
    obtain ⟨σ', H', I', q⟩ := q
    exact h2 pins s1 σ' H' D I' q
  | ret v => exact q
  | brk => exact q
  | cont => exact q
theorem pss_one (h1 : PS X st t) : PSs X [st] t := by
  intro pins s σ H D I h
  refine wpAny_execs_cons (thn (h1 pins s σ H D I h) fun f s1 q => ?_)
  cases f with
  | next => exact wpAny_execs_nil q
  | ret v => exact q
  | brk => exact q
  | cont => exact q
theorem Inv.quiet {pins : List (Addr × Obj)} {σ : St} {H : Hp} {s : Shared} (I : Inv X pins σ H s) : interactive X.env = false := by simp [interactive, I.ok.kind]
def tDrop (te : TE) : TS := fun D σ H => te σ H fun _ H1 => D.nx σ H1
theorem ps_expr (he : PE X e te) (hs : swapsWith e none pos.line X.env = pure false := by rfl) : PS X (.Expr e pos) (tDrop te) := by
  intro pins s σ H D I h
  exact wpAny_Expr_any (thn (he pins s σ H _ I h) fun v s1 ⟨x, H1, I1, r1, q1⟩ => ⟨σ, H1, I1, q1⟩) I.quiet hs
def tRet (te : TE) : TS := fun D σ H => te σ H D.rt
theorem ps_ret (he : PE X e te) : PS X (.Return (some e) pos) (tRet te) := by
  intro pins s σ H D I h
  exact wpAny_Return_some (thn (he pins s σ H _ I h) fun v s1 ⟨x, H1, I1, r1, q1⟩ => ⟨x, σ, H1, I1, r1, q1⟩)
def tIfS (c : TT) (t u : TS) : TS := fun D σ H => c σ H fun b H1 => if b = true then t D σ H1 else u D σ H1
theorem ps_if {c : Expr} {a b : List Stmt} {tc : TT} (hc : PT X c tc) (ha : PSs X a t) (hb : PSs X b u) : PS X (.If c a b pos) (tIfS tc t u) := by
  intro pins s σ H D I h
  refine wpAny_If (thn (hc pins s σ H _ I h) fun d s1 ⟨H1, I1, q1⟩ => ?_)
  cases d with
  | true => exact ha pins s1 σ H1 D I1 q1
  | false => exact hb pins s1 σ H1 D I1 q1
end
abbrev TG := V → St → Hp → (St → Hp → Prop) → Prop
abbrev TGs := List V → St → Hp → (St → Hp → Prop) → Prop
def PG (X : Cx) (target : Expr) (t : TG) : Prop :=
  ∀ (pins : List (Addr × Obj)) (s : Shared) (σ : St) (H : Hp) (v : V) (u : Value) (Q : St → Hp → Prop), Inv X pins σ H s → RelV v u → t v σ H Q →
    wpAny (model X.prog X.w) X.A (assign target X.env u) (fun _ s' => ∃ σ' H', Inv X pins σ' H' s' ∧ Q σ' H') X.xe s
def PGs (X : Cx) (ts : List Expr) (t : TGs) : Prop :=
  ∀ (pins : List (Addr × Obj)) (s : Shared) (σ : St) (H : Hp) (vs : List V) (us : List Value) (Q : St → Hp → Prop), Inv X pins σ H s → Vals vs us → t vs σ H Q →
    wpAny (model X.prog X.w) X.A (assignInOrder ((assignEach ts X.env).map (·.2)) us) (fun _ s' => ∃ σ' H', Inv X pins σ' H' s' ∧ Q σ' H') X.xe s
abbrev TSet := V → V → V → Hp → (Hp → Prop) → Prop
def PSet (X : Cx) (t : TSet) : Prop :=
  ∀ (pins : List (Addr × Obj)) (s : Shared) (σ : St) (H : Hp) (o i v : V) (ov iv u : Value) (Q : Hp → Prop), Inv X pins σ H s → RelV o ov → RelV i iv → RelV v u → t o i v H Q →
    wpAny (model X.prog X.w) X.A (setItem ov iv u) (fun _ s' => ∃ H', Inv X pins σ H' s' ∧ Q H') X.xe s
abbrev TIp := V → V → Hp → VK → Prop
def PIp (X : Cx) (op : Operator) (t : TIp) : Prop :=
  ∀ (pins : List (Addr × Obj)) (s : Shared) (σ : St) (H : Hp) (x y : V) (v u : Value) (Q : VK), Inv X pins σ H s → RelV x v → RelV y u → t x y H Q →
    wpAny (model X.prog X.w) X.A (inplaceOp op v u) (EP X pins σ Q) X.xe s
section
variable {X : Cx} {pos : Pos}
def gName (i : Nat) : TG := fun v σ H Q => Q (σ.set i (some v)) H
theorem pg_name {i : Nat} {x : Str} (hN : X.N.Nodup) (hi : X.N[i]? = some x) (hx : Loc X.env.scope x) (hf : X.fn x = true ∨ X.env.scope.names.lookup x = some .local := by first | exact .inl rfl | exact .inr rfl | assumption) : PG X (.Name x pos) (gName i) := by
  intro pins s σ H v u Q I r h
  exact wpAny_assign_Name (store_ok I hN hi hx r (fun s' I' => ⟨_, H, I', h⟩) hf)
def gTup (K : PySem.W.Frag) (n : Nat) (t : TGs) : TG := fun v σ H Q => ∃ a xs, v = .ref a ∧ SqT K H a xs ∧ xs.length = n ∧ t xs σ H Q
def gSub (to ti : TE) (t : TSet) : TG := fun v σ H Q => to σ H fun o H1 => ti σ H1 fun i H2 => t o i v H2 fun H3 => Q σ H3
theorem pg_sub {o i : Expr} {to ti : TE} {t : TSet} (ho : PE X o to) (hi : PE X i ti) (hs : PSet X t)
    (ha : ∀ v, assign (.Subscript o i pos) X.env v = (do
      let ov ← holding [v] (eval o X.env)
      let iv ← holding [v, ov] (eval i X.env)
      standAt pos
      holding [v, ov, iv] (setItem ov iv v)
      release [v, ov, iv] []) := by intro _; rfl) : PG X (.Subscript o i pos) (gSub to ti t) := by
  intro pins s σ H v u Q I r h
  rw [ha]
  refine wpAny_bind (wpAny_holding (thn (ho pins s σ H _ I h) fun ov s1 ⟨x, H1, I1, r1, q1⟩ => ?_))
  refine wpAny_bind (wpAny_holding (thn (hi pins s1 σ H1 _ I1 q1) fun iv s2 ⟨y, H2, I2, r2, q2⟩ => ?_))
  refine wpAny_bind (wpAny_standAt (wpAny_bind (wpAny_holding (thn (hs pins s2 σ H2 x y v ov iv u _ I2 r1 r2 r q2) fun _ s3 ⟨H3, I3, q3⟩ => ?_))))
  exact wpAny_release ⟨σ, H3, I3, q3⟩
def tAsg (te : TE) (g : TG) : TS := fun D σ H => te σ H fun x H1 => g x σ H1 D.nx
theorem ps_asg {tg e : Expr} {te : TE} {g : TG} (he : PE X e te) (hg : PG X tg g) (hs : swapsWithSole [tg] e pos.line X.env = pure false := by rfl) (hw : swappedStores [tg] e X.env = pure none := by rfl)
    (h1 : (assignEach [tg] X.env).map (·.2) = [assign tg X.env] := by rfl) : PS X (.Assign [tg] e pos) (tAsg te g) := by
  intro pins s σ H D I h
  refine wpAny_Assign_stores (thn (he pins s σ H _ I h) fun v s1 ⟨x, H1, I1, r1, q1⟩ => ?_) hs hw
  rw [h1]
  exact thn (hg pins s1 σ H1 x v _ I1 r1 q1) fun _ s2 q => q
theorem ps_set {i : Nat} {x : Str} {e : Expr} {te : TE} {pos' : Pos} (hN : X.N.Nodup) (hi : X.N[i]? = some x) (hx : Loc X.env.scope x) (he : PE X e te) (hs : swapsWith e (some (.Name x pos')) pos.line X.env = pure false := by rfl) (hf : X.fn x = true ∨ X.env.scope.names.lookup x = some .local := by first | exact .inl rfl | exact .inr rfl | assumption) :
    PS X (.Assign [.Name x pos'] e pos) (tAsg te (gName i)) := by
  intro pins s σ H D I h
  refine wpAny_Assign_Name (thn (he pins s σ H _ I h) fun v s1 ⟨y, H1, I1, r1, q1⟩ => ?_) hs
  exact store_ok I1 hN hi hx r1 (fun s2 I2 => ⟨_, H1, I2, q1⟩) hf
def tAug (i : Nat) (te : TE) (ti : TIp) : TS := fun D σ H => ∃ x, σ[i]? = some (some x) ∧ te σ H fun y H1 => ti x y H1 fun z H2 => D.nx (σ.set i (some z)) H2
theorem ps_aug {i : Nat} {x : Str} {e : Expr} {te : TE} {op : Operator} {ti : TIp} {pos' : Pos} (hN : X.N.Nodup) (hi : X.N[i]? = some x) (hx : Loc X.env.scope x) (he : PE X e te) (ho : PIp X op ti) (hf : X.fn x = true ∨ X.env.scope.names.lookup x = some .local := by first | exact .inl rfl | exact .inr rfl | assumption) :
    PS X (.AugAssign (.Name x pos') op e pos) (tAug i te ti) := by
  intro pins s σ H D I h
  obtain ⟨v, e1, h⟩ := h
  obtain ⟨m, hn, hl⟩ := I.loc
  have vis : Vis X.env.scope x := by rcases hx with k | k; exact .inl k; exact .inr (.inl k)
  obtain ⟨u, r, l⟩ := hl i x v hi e1 vis
  refine wpAny_AugAssign_Name ?_
  have go : wpAny (model X.prog X.w) X.A (eval e X.env) (fun w s₂ => wpAny (model X.prog X.w) X.A (inplaceOp op u w) (fun r s₃ => wpAny (model X.prog X.w) X.A (storeName X.env x r) (fun _ => SP X pins D .next) X.xe s₃) X.xe s₂) X.xe s := by
    refine thn (he pins s σ H _ I h) fun w s1 ⟨y, H1, I1, r1, q1⟩ => ?_
    refine thn (ho pins s1 σ H1 v y u w _ I1 r r1 q1) fun z s2 ⟨zv, H2, I2, r2, q2⟩ => ?_
    exact store_ok I2 hN hi hx r2 (fun s3 I3 => ⟨_, H2, I3, q2⟩) hf
  rcases l with ⟨hk, hm⟩ | ⟨hk, c, hc, hcell⟩
  · exact wpAny_loadName_local I.ok.kind hk hn hm go
  · rcases hk with hk | hk
    · exact wpAny_loadName_cell I.ok.kind hk hc hcell go
    · rcases hx with k | k
      · have : X.env.scope.names.lookup x = some .free := hk
        rw [k] at this; cases this
      · have : X.env.scope.names.lookup x = some .free := hk
        rw [k] at this; cases this
end
section
variable {X : Cx} {pos : Pos}
def tWhile (c : TT) (tb : TS) : TS := fun D σ H => ∃ W : Nat → St → Hp → Prop, (∃ m, W m σ H) ∧ ∀ m σ H, W m σ H →
  c σ H fun b H1 => if b = true then ∃ N : St → Hp → Prop, (∀ σ' H', N σ' H' → ∃ m', m' < m ∧ W m' σ' H') ∧ tb { D with nx := N, ct := N, bk := D.nx } σ H1 else D.nx σ H1
theorem ps_while {c : Expr} {body : List Stmt} {tc : TT} {tb : TS} (hp : PassesOwn (model X.prog X.w) X.A X.env X.xe) (hc : PT X c tc) (hb : PSs X body tb) : PS X (.While c body [] pos) (tWhile tc tb) := by
  intro pins s σ H D I h
  obtain ⟨W, ⟨m0, w0⟩, turn⟩ := h
  refine wpAny_While (codeAny_whileLoop (fun n s' => ∃ σ' H', Inv X pins σ' H' s' ∧ W n σ' H') ?_ m0 ⟨σ, H, I, w0⟩)
  rintro n s1 ⟨σ1, H1, I1, w1⟩
  refine wpAny_passesOwn hp (thn (hc pins s1 σ1 H1 _ I1 (turn n σ1 H1 w1)) fun b s2 ⟨H2, I2, q2⟩ => ?_)
  cases b with
  | true =>
    obtain ⟨N, hN, q2⟩ := q2
    rw [if_pos rfl]
    refine wpAny_passesOwn hp (thn (hb pins s2 σ1 H2 _ I2 q2) fun f s3 q3 => ?_)
    cases f with
    | next =>
      obtain ⟨σ3, H3, I3, n3⟩ := q3
      obtain ⟨m', hm, w3⟩ := hN σ3 H3 n3
      exact ⟨m', hm, σ3, H3, I3, w3⟩
    | cont =>
      obtain ⟨σ3, H3, I3, n3⟩ := q3
      obtain ⟨m', hm, w3⟩ := hN σ3 H3 n3
      exact ⟨m', hm, σ3, H3, I3, w3⟩
    | brk => exact q3
    | ret v => exact q3
  | false =>
    rw [if_neg Bool.false_ne_true]
    exact wpAny_execs_nil ⟨σ1, H2, I2, q2⟩
end
structure It where
  go : Nat → Hp → Prop
  yld : Nat → Hp → V → Hp → Prop
  stop : Nat → Hp → Prop
def FpOk (X : Cx) (pins : List (Addr × Obj)) (H : Hp) (b : Addr) : Prop :=
  H b = none ∧ b ≠ X.env.locals ∧ b ∉ X.fs ∧ (b ∈ X.ex ∨ X.s₀.heap.objs.size ≤ b) ∧ (∀ x c, X.env.cells.lookup x = some c → c ≠ b) ∧ ∀ p ∈ X.pn ++ pins, p.1 ≠ b
theorem Inv.fpOk {X : Cx} {pins : List (Addr × Obj)} {σ : St} {H H' : Hp} {s : Shared} {b : Addr} (I : Inv X pins σ H s) (hb : s.heap.objs.size ≤ b) (hn : H' b = none) : FpOk X pins H' b := by
  refine ⟨hn, Nat.ne_of_gt (Nat.lt_of_lt_of_le I.lt hb), I.nofs hb, .inr (Nat.le_trans I.sz hb), fun x c e z => ?_, fun p hp z => ?_⟩
  · obtain ⟨v, q⟩ := I.cell x c e
    exact absurd (Nat.lt_of_lt_of_le q.lt (by rw [z]; exact hb)) (Nat.lt_irrefl _)
  · exact absurd (Nat.lt_of_lt_of_le (Heap.lt_size (I.pin p hp).1) (by rw [z]; exact hb)) (Nat.lt_irrefl _)
structure Turn (P : Program) (w : World) (K : PySem.W.Frag) (tg : Expr) (J : It) (fp : List Addr) (it : Addr) (tn : Nat → Heap → Prop) : Prop where
  mem : it ∈ fp
  obj : ∀ i h, tn i h → ∀ b ∈ fp, ∃ o, h.get? b = some o ∧ ∀ v, o.data ≠ .cell v
  keep : ∀ i h h', tn i h → (∀ b ∈ fp, ∀ o, h.get? b = some o → h'.get? b = some o) → tn i h'
  item : ∀ (X : Cx), X.prog = P → X.w = w → X.K = K → X.calm = true → ∀ (i : Nat) (pins : List (Addr × Obj)) (s : Shared) (σ : St) (H : Hp) (E : Value → Shared → Prop), Inv X pins σ H s → (∀ b ∈ fp, FpOk X pins H b) → tn i s.heap → J.go i H →
    wpAny (model P w) X.A (pyNext (.ref it)) (fun r s1 => ∃ u, r = some u ∧
      wpAny (model P w) X.A (letOwnedTupleGo tg (.ref it) u) (fun _ s2 => ∃ x H', Inv X pins σ H' s2 ∧ RelV x u ∧ J.yld i H x H' ∧ tn (i + 1) s2.heap ∧ ∀ b ∈ fp, H' b = none) E s1) E s
  done : ∀ (X : Cx), X.prog = P → X.w = w → X.K = K → X.calm = true → ∀ (i : Nat) (pins : List (Addr × Obj)) (s : Shared) (σ : St) (H : Hp) (E : Value → Shared → Prop), Inv X pins σ H s → (∀ b ∈ fp, FpOk X pins H b) → tn i s.heap → J.stop i H →
    wpAny (model P w) X.A (pyNext (.ref it)) (fun r s1 => r = none ∧ Inv X pins σ H s1) E s
  self : ∀ (A : Around) (i : Nat) (s : Shared) (Q : Value → Shared → Prop) (E : Value → Shared → Prop), tn i s.heap → Q (.ref it) s → wpAny (model P w) A (pyIter (.ref it)) Q E s
abbrev TI := St → Hp → (It → Hp → Prop) → Prop
def PIE (X : Cx) (pins : List (Addr × Obj)) (σ : St) (tg : Expr) (R : It → Hp → Prop) (itv : Value) (s2 : Shared) : Prop :=
  ∃ (it : Addr) (fp : List Addr) (tn : Nat → Heap → Prop) (J : It) (H' : Hp), itv = .ref it ∧ Inv X pins σ H' s2 ∧ Turn X.prog X.w X.K tg J fp it tn ∧ tn 0 s2.heap ∧ (∀ b ∈ fp, FpOk X pins H' b) ∧ R J H'
def PI (X : Cx) (tg iter : Expr) (wi : TI) : Prop :=
  ∀ (pins : List (Addr × Obj)) (s : Shared) (σ : St) (H : Hp) (R : It → Hp → Prop), Inv X pins σ H s → wi σ H R →
    wpAny (model X.prog X.w) X.A (eval iter X.env) (fun v s1 => wpAny (model X.prog X.w) X.A (pyIter v) (PIE X pins σ tg R) X.xe s1) X.xe s
theorem go_of {M : Model} {A : Around} {E : Value → Shared → Prop} {s : Shared} {tg : Expr} {it : Addr} {u : Value} {o : Obj} {n : String} {vs : Array Value} {Q : Unit → Shared → Prop} (ho : s.heap.get? it = some o) (hc : o.cls = .type n) (hd : o.data = .fields vs)
    (hn : ["enumerate", "zip", "dict_itemiterator", "dict_reverseitemiterator", "odict_iterator", "itertools.zip_longest", "itertools.pairwise"].contains n = false) (hQ : Q () s) : wpAny M A (letOwnedTupleGo tg (.ref it) u) Q E s := by
  unfold letOwnedTupleGo
  cases tg <;> first
    | exact wpAny_pure hQ
    | (cases u <;> first
        | exact wpAny_pure hQ
        | (refine wpAny_bind (wpAny_load ho ?_)
           rw [hc, hd]
           show wpAny M A (if (["enumerate", "zip", "dict_itemiterator", "dict_reverseitemiterator", "odict_iterator", "itertools.zip_longest", "itertools.pairwise"].contains n && vs[0]? == some (rawInt _)) = true then _ else _) Q E s
           rw [if_neg (by intro h; rw [hn, Bool.false_and] at h; cases h)]
           exact wpAny_pure hQ))
def Itl (K : PySem.W.Frag) (a : Addr) : It :=
  ⟨fun i H => ∃ xs x, SqL K H a xs ∧ xs[i]? = some x, fun i H x H' => H' = H ∧ ∀ xs, SqL K H a xs → xs[i]? = some x, fun i H => ∃ xs, SqL K H a xs ∧ xs.length ≤ i⟩
def Itt (K : PySem.W.Frag) (a : Addr) : It :=
  ⟨fun i H => ∃ xs x, SqT K H a xs ∧ xs[i]? = some x, fun i H x H' => H' = H ∧ ∀ xs, SqT K H a xs → xs[i]? = some x, fun i H => ∃ xs, SqT K H a xs ∧ xs.length ≤ i⟩
def Itr (lo : Int) (n : Nat) : It := ⟨fun i _ => i < n, fun i H x H' => H' = H ∧ x = .int (lo + i), fun i _ => n ≤ i⟩
theorem turn_list {P : Program} {w : World} {K : PySem.W.Frag} {tg : Expr} (a it : Addr) : Turn P w K tg (Itl K a) [it] it (fun i h => h.IsListIter it a i) where
  mem := by simp
  obj := fun i h st b hb => by
    have e : b = it := by simpa using hb
    subst e
    obtain ⟨o, e, c, d⟩ := st
    exact ⟨o, e, fun v z => by rw [d] at z; cases z⟩
  keep := fun i h h' st k => st.at fun o e => k it (by simp) o e
  item := by
    intro X hP hw hK hc i pins s σ H E I hf st hg
    subst hP hw hK
    obtain ⟨xs, x, hq, hx⟩ := hg
    obtain ⟨its, rv, p, hz⟩ := I.list hq
    obtain ⟨u, hu, ru⟩ := rv.get hx
    obtain ⟨f0, f1, f2, f3, f4, f5⟩ := hf it (by simp)
    refine wpAny_pyNext_list_item st p.isList (x := u) (by simpa using hu) fun h' st' sb => ?_
    have I1 : Inv X pins σ H { s with heap := h' } := I.turned (t' := s.toks) (fun b o hb e => (sb.2 b hb).trans e) f0 f1 f3 f4 f5
    obtain ⟨o, e, c, d⟩ := id st'
    exact ⟨u, rfl, go_of (s := { s with heap := h' }) e c d (by decide) ⟨x, H, I1, ru, ⟨rfl, fun ys hy => by rw [I.list_inj hy hq]; exact hx⟩, st', fun b hb => (hf b hb).1⟩⟩
  done := by
    intro X hP hw hK hc i pins s σ H E I hf st hg
    subst hP hw hK
    obtain ⟨xs, hq, hx⟩ := hg
    obtain ⟨its, rv, p, hz⟩ := I.list hq
    obtain ⟨f0, f1, f2, f3, f4, f5⟩ := hf it (by simp)
    have hl := rv.length
    exact wpAny_pyNext_list_end (I.ok.hd hc) st p.isList (by simp; omega) fun h' eb => ⟨rfl, I.turned (t' := s.toks) (fun b o hb e => eb b o hb e) f0 f1 f3 f4 f5⟩
  self := fun _ _ _ _ _ st h => wpAny_pyIter_listiter st h
theorem turn_tuple {P : Program} {w : World} {K : PySem.W.Frag} {tg : Expr} (a it : Addr) : Turn P w K tg (Itt K a) [it] it (fun i h => h.IsTupleIter it a i) where
  mem := by simp
  obj := fun i h st b hb => by
    have e : b = it := by simpa using hb
    subst e
    obtain ⟨o, e, c, d⟩ := st
    exact ⟨o, e, fun v z => by rw [d] at z; cases z⟩
  keep := fun i h h' st k => st.at fun o e => k it (by simp) o e
  item := by
    intro X hP hw hK hc i pins s σ H E I hf st hg
    subst hP hw hK
    obtain ⟨xs, x, hq, hx⟩ := hg
    obtain ⟨its, rv, p, hz⟩ := I.tuple hq
    obtain ⟨u, hu, ru⟩ := rv.get hx
    obtain ⟨f0, f1, f2, f3, f4, f5⟩ := hf it (by simp)
    refine wpAny_pyNext_tuple_item st (show s.heap.IsTuple a its.toArray from p) (x := u) (by simpa using hu) fun h' st' sb => ?_
    have I1 : Inv X pins σ H { s with heap := h' } := I.turned (t' := s.toks) (fun b o hb e => (sb.2 b hb).trans e) f0 f1 f3 f4 f5
    obtain ⟨o, e, c, d⟩ := id st'
    exact ⟨u, rfl, go_of (s := { s with heap := h' }) e c d (by decide) ⟨x, H, I1, ru, ⟨rfl, fun ys hy => by rw [I.tuple_inj hy hq]; exact hx⟩, st', fun b hb => (hf b hb).1⟩⟩
  done := by
    intro X hP hw hK hc i pins s σ H E I hf st hg
    subst hP hw hK
    obtain ⟨xs, hq, hx⟩ := hg
    obtain ⟨its, rv, p, hz⟩ := I.tuple hq
    obtain ⟨f0, f1, f2, f3, f4, f5⟩ := hf it (by simp)
    have hl := rv.length
    exact wpAny_pyNext_tuple_end (I.ok.hd hc) st (show s.heap.IsTuple a its.toArray from p) (by simp; omega) fun h' eb => ⟨rfl, I.turned (t' := s.toks) (fun b o hb e => eb b o hb e) f0 f1 f3 f4 f5⟩
  self := fun _ _ _ _ _ st h => wpAny_pyIter_tupleiter st h
theorem turn_range {P : Program} {w : World} {K : PySem.W.Frag} {tg : Expr} (it : Addr) (lo : Int) (n : Nat) : Turn P w K tg (Itr lo n) [it] it (fun i h => IsRangeIter h it (lo + (i : Nat) * 1) ((n : Int) - (i : Nat)) 1) where
  mem := by simp
  obj := fun i h st b hb => by
    have e : b = it := by simpa using hb
    subst e
    exact ⟨_, st, fun v z => by
      have z' : Data.fields _ = Data.cell v := z
      cases z'⟩
  keep := fun i h h' st k => k it (by simp) _ st
  item := by
    intro X hP hw hK hc i pins s σ H E I hf st hg
    subst hP hw hK
    obtain ⟨f0, f1, f2, f3, f4, f5⟩ := hf it (by simp)
    have W := Walks.range (prog := X.prog) (w := X.w) (I.ok.hd hc) it lo 1 n
    refine W.item i s _ _ hg st fun v h' tk hv st' kk => ?_
    obtain ⟨t, rfl⟩ := hv
    have I1 : Inv X pins σ H { s with heap := h', toks := tk } := I.turned (fun b o hb e => kk b o (by simpa using hb) e) f0 f1 f3 f4 f5
    refine ⟨_, rfl, go_of (s := { s with heap := h', toks := tk }) (n := "range_iterator") st' rfl rfl (by decide) ⟨.int (lo + i), H, I1, ⟨t, ?_⟩, ⟨rfl, rfl⟩, st', fun b hb => (hf b hb).1⟩⟩
    rw [Int.mul_one]
  done := by
    intro X hP hw hK hc i pins s σ H E I hf st hg
    subst hP hw hK
    obtain ⟨f0, f1, f2, f3, f4, f5⟩ := hf it (by simp)
    exact wpAny_pyNext_range_end (I.ok.hd hc) st (by have : n ≤ i := hg; omega) fun h' eb => ⟨rfl, I.turned (t' := s.toks) (fun b o hb e => eb b o hb e) f0 f1 f3 f4 f5⟩
  self := fun _ _ _ _ _ st h => wpAny_pyIter_rangeiter st h
end L2
namespace L2
open PySem PySem.Spec PyProof.Rows
section
variable {X : Cx} {tg : Expr}
def iList (K : PySem.W.Frag) (tl : TE) : TI := fun σ H R => tl σ H fun x H1 => ∃ a, x = .ref a ∧ (∃ xs, SqL K H1 a xs) ∧ R (Itl K a) H1
def iTup (K : PySem.W.Frag) (tl : TE) : TI := fun σ H R => tl σ H fun x H1 => ∃ a, x = .ref a ∧ (∃ xs, SqT K H1 a xs) ∧ R (Itt K a) H1
theorem pi_list {l : Expr} {tl : TE} (hl : PE X l tl) : PI X tg l (iList X.K tl) := by
  intro pins s σ H R I h
  refine thn (hl pins s σ H _ I h) fun v s1 ⟨x, H1, I1, r1, q1⟩ => ?_
  obtain ⟨a, e, ⟨xs, hq⟩, q⟩ := q1
  subst e
  cases r1
  obtain ⟨its, rv, p, hz⟩ := I1.list hq
  refine wpAny_pyIter_list p.isList ?_
  refine ⟨s1.heap.objs.size, [s1.heap.objs.size], _, _, H1, rfl, I1.kept (t' := s1.toks) fun b o e => Heap.get?_push_of_some _ e, turn_list a _, ⟨_, Heap.get?_push_size _ rfl, rfl, rfl⟩, fun b hb => ?_, q⟩
  have e : b = s1.heap.objs.size := by simpa using hb
  subst e
  exact I1.fpOk (Nat.le_refl _) (I1.hok.fresh (Nat.le_refl _))
theorem pi_tup {l : Expr} {tl : TE} (hl : PE X l tl) : PI X tg l (iTup X.K tl) := by
  intro pins s σ H R I h
  refine thn (hl pins s σ H _ I h) fun v s1 ⟨x, H1, I1, r1, q1⟩ => ?_
  obtain ⟨a, e, ⟨xs, hq⟩, q⟩ := q1
  subst e
  cases r1
  obtain ⟨its, rv, p, hz⟩ := I1.tuple hq
  refine wpAny_pyIter_tuple (show s1.heap.IsTuple a its.toArray from p) ?_
  refine ⟨s1.heap.objs.size, [s1.heap.objs.size], _, _, H1, rfl, I1.kept (t' := s1.toks) fun b o e => Heap.get?_push_of_some _ e, turn_tuple a _, ⟨_, Heap.get?_push_size _ rfl, rfl, rfl⟩, fun b hb => ?_, q⟩
  have e : b = s1.heap.objs.size := by simpa using hb
  subst e
  exact I1.fpOk (Nat.le_refl _) (I1.hok.fresh (Nat.le_refl _))
theorem range_it {pins : List (Addr × Obj)} {σ : St} {H : Hp} {s : Shared} {R : It → Hp → Prop} {E : Value → Shared → Prop} {lo hi : Int} {t u v : Tok} {tk : Nat} (I : Inv X pins σ H s) (h1 : -(2 ^ 62) ≤ lo) (h2 : lo < 2 ^ 62) (h3 : -(2 ^ 62) ≤ hi) (h4 : hi < 2 ^ 62)
    (q : R (Itr lo (hi - lo).toNat) H) : wpAny (model X.prog X.w) X.A (pyIter (.ref s.heap.objs.size)) (PIE X pins σ tg R) E { s with heap := s.heap.push { cls := .type "range", data := .fields #[.int lo t, .int hi u, .int 1 v] }, toks := tk } := by
  refine wpAny_pyIter_range (IsRange.new ..) (small_one h1 h2 h3 h4) ?_
  have I1 : Inv X pins σ H { s with heap := s.heap.push { cls := .type "range", data := .fields #[.int lo t, .int hi u, .int 1 v] }, toks := tk } := I.kept fun b o e => Heap.get?_push_of_some _ e
  refine ⟨(s.heap.push { cls := .type "range", data := .fields #[.int lo t, .int hi u, .int 1 v] }).objs.size, [(s.heap.push { cls := .type "range", data := .fields #[.int lo t, .int hi u, .int 1 v] }).objs.size], _, _, H, rfl,
    I1.kept (t' := tk) fun b o e => Heap.get?_push_of_some _ e, turn_range _ lo (hi - lo).toNat, ?_, fun b hb => ?_, q⟩
  · have e1 : lo + ((0 : Nat) : Int) * 1 = lo := by simp
    have e2 : (((hi - lo).toNat : Nat) : Int) - ((0 : Nat) : Int) = Builtin.Range.rangeSize lo hi 1 := by rw [rangeSize_one]; split <;> omega
    show IsRangeIter _ _ (lo + ((0 : Nat) : Int) * 1) ((((hi - lo).toNat : Nat) : Int) - ((0 : Nat) : Int)) 1
    rw [e1, e2]
    exact Heap.get?_push_size _ rfl
  · have e : b = (s.heap.push { cls := .type "range", data := .fields #[.int lo t, .int hi u, .int 1 v] }).objs.size := by simpa using hb
    subst e
    exact I1.fpOk (Nat.le_refl _) (I1.hok.fresh (Nat.le_refl _))
def iRng1 (ta : TA) : TI := fun σ H R => ta σ H fun vs H1 => ∃ j : Int, vs = [.int j] ∧ -(2 ^ 62) ≤ j ∧ j < 2 ^ 62 ∧ R (Itr 0 j.toNat) H1
theorem pi_range1 {a : Expr} {ta : TA} {p pos : Pos} (hg : Gl X "range") (hm : X.mg "range" = none) (ha : PA X [a] ta) (hs : starEach [a] X.env = [(false, eval a X.env)] := by rfl) : PI X tg (.Call (.Name "range" p) [a] [] pos) (iRng1 ta) := by
  intro pins s σ H R I h
  refine Call_ (ld_blt I hg hm boot_range (PyProof.Rows.callWith_type1 (thn (ha pos pins s σ H _ I h) fun us s1 ⟨vs, H1, I1, r1, q1⟩ => ?_) hs rfl))
  obtain ⟨j, e, q1, q2, q⟩ := q1
  subst e
  cases r1 with
  | cons r rr =>
    cases rr
    obtain ⟨t, rfl⟩ := r
    exact call_range_1 (range_it I1 (by omega) (by omega) q1 q2 (by simpa using q))
def tFor (wi : TI) (g : TG) (tb : TS) : TS := fun D σ H => wi σ H fun J H1 => ∃ W : Nat → Nat → St → Hp → Prop, (∃ m, W 0 m σ H1) ∧ ∀ i m σ H, W i m σ H →
  (J.stop i H ∧ D.nx σ H) ∨ (J.go i H ∧ ∃ N : St → Hp → Prop, (∀ σ' H', N σ' H' → ∃ m', m' < m ∧ W (i + 1) m' σ' H') ∧ ∀ x H', J.yld i H x H' → g x σ H' fun σ2 H2 => tb { D with nx := N, ct := N, bk := D.nx } σ2 H2)
def pinsAt (fp : List Addr) (h : Heap) : List (Addr × Obj) := fp.filterMap fun b => (h.get? b).map fun o => (b, o)
theorem mem_pinsAt {fp : List Addr} {h : Heap} {b : Addr} {o : Obj} (hb : b ∈ fp) (e : h.get? b = some o) : (b, o) ∈ pinsAt fp h := List.mem_filterMap.mpr ⟨b, hb, by rw [e]; rfl⟩
theorem of_pinsAt {fp : List Addr} {h : Heap} {p : Addr × Obj} (hp : p ∈ pinsAt fp h) : p.1 ∈ fp ∧ h.get? p.1 = some p.2 := by
  obtain ⟨b, hb, e⟩ := List.mem_filterMap.mp hp
  cases q : h.get? b with
  | none => rw [q] at e; cases e
  | some o =>
    rw [q] at e
    have e' : (b, o) = p := Option.some.inj e
    subst e'
    exact ⟨hb, q⟩
theorem Inv.pinned {pins : List (Addr × Obj)} {σ : St} {H : Hp} {s : Shared} {fp : List Addr} (I : Inv X pins σ H s) (hf : ∀ b ∈ fp, FpOk X pins H b) (ho : ∀ b ∈ fp, ∃ o, s.heap.get? b = some o ∧ ∀ v, o.data ≠ .cell v) : Inv X (pins ++ pinsAt fp s.heap) σ H s :=
  I.pins_of fun p hp => (List.mem_append.mp hp).elim (fun z => I.pin p (List.mem_append_right _ z)) fun z => by
    obtain ⟨hb, e⟩ := of_pinsAt z
    obtain ⟨f0, f1, f2, _⟩ := hf p.1 hb
    obtain ⟨o, e', d⟩ := ho p.1 hb
    rw [e] at e'; cases e'
    exact ⟨e, f0, f1, f2, d⟩
theorem Inv.unpinned {pins pl : List (Addr × Obj)} {σ : St} {H : Hp} {s : Shared} (I : Inv X (pins ++ pl) σ H s) : Inv X pins σ H s := I.pins_of fun p hp => I.pin p (List.mem_append_right _ (List.mem_append_left _ hp))
theorem ps_for {iter : Expr} {body : List Stmt} {wi : TI} {g : TG} {tb : TS} {pos : Pos} (hp : PassesOwn (model X.prog X.w) X.A X.env X.xe) (hc : X.calm = true) (hi : PI X tg iter wi) (hg : PG X tg g) (hb : PSs X body tb)
    (hs : ∀ x, foldedSetIterable iter X.env x = pure x := by intro _; rfl) : PS X (.For tg iter body [] pos) (tFor wi g tb) := by
  intro pins s σ H D I h
  refine wpAny_For (thn (hi pins s σ H _ I h) fun v s1 h1 => thn h1 fun itv s2 h2 => ?_) hs
  obtain ⟨it, fp, tn, J, H2, e, I2, T, st2, f2, W, ⟨m0, w0⟩, turn⟩ := h2
  subst e
  have stat : ∀ {H' : Hp}, (∀ b ∈ fp, H' b = none) → ∀ b ∈ fp, FpOk X pins H' b := fun hn b hb => ⟨hn b hb, (f2 b hb).2⟩
  refine codeAny_forLoop_any (fun n s' => ∃ i σ' H', Inv X pins σ' H' s' ∧ tn i s'.heap ∧ (∀ b ∈ fp, H' b = none) ∧ W i n σ' H') ?_ m0 ⟨0, σ, H2, I2, st2, fun b hb => (f2 b hb).1, w0⟩
  rintro n s3 ⟨i, σ3, H3, I3, st3, fr3, w3⟩
  rcases turn i n σ3 H3 w3 with ⟨stop, qn⟩ | ⟨go, N, hN, step⟩
  · refine wpAny_passesOwn hp (thn (T.done X rfl rfl rfl hc i pins s3 σ3 H3 X.xe I3 (stat fr3) st3 stop) fun r s4 ⟨hr, I4⟩ => ?_)
    subst hr
    exact wpAny_execs_nil ⟨σ3, H3, I4, qn⟩
  · refine wpAny_passesOwn hp (thn (T.item X rfl rfl rfl hc i pins s3 σ3 H3 X.xe I3 (stat fr3) st3 go) fun r s4 ⟨u, hr, h4⟩ => ?_)
    subst hr
    refine wpAny_passesOwn hp (thn h4 fun _ s5 ⟨x, H5, I5, r5, y5, st5, fr5⟩ => ?_)
    have I5' := I5.pinned (stat fr5) (T.obj _ _ st5)
    refine wpAny_passesOwn hp (thn (hg _ s5 σ3 H5 x u _ I5' r5 (step x H5 y5)) fun _ s6 ⟨σ6, H6, I6, q6⟩ => ?_)
    refine wpAny_passesOwn hp (thn (hb _ s6 σ6 H6 _ I6 q6) fun f s7 q7 => ?_)
    have again : ∀ {σ7 : St} {H7 : Hp}, Inv X (pins ++ pinsAt fp s5.heap) σ7 H7 s7 → N σ7 H7 → ∃ m, m < n ∧ ∃ i σ' H', Inv X pins σ' H' s7 ∧ tn i s7.heap ∧ (∀ b ∈ fp, H' b = none) ∧ W i m σ' H' := fun {σ7 H7} I7 n7 => by
      obtain ⟨m', hm, w7⟩ := hN σ7 H7 n7
      refine ⟨m', hm, i + 1, σ7, H7, I7.unpinned, T.keep _ _ _ st5 fun b hb o e => (I7.pin (b, o) (List.mem_append_right _ (List.mem_append_right _ (mem_pinsAt hb e)))).1, fun b hb => ?_, w7⟩
      obtain ⟨o, e, d⟩ := T.obj _ _ st5 b hb
      exact (I7.pin (b, o) (List.mem_append_right _ (List.mem_append_right _ (mem_pinsAt hb e)))).2.1
    cases f with
    | next => obtain ⟨σ7, H7, I7, n7⟩ := q7; exact again I7 n7
    | cont => obtain ⟨σ7, H7, I7, n7⟩ := q7; exact again I7 n7
    | brk => obtain ⟨σ7, H7, I7, q7⟩ := q7; exact ⟨σ7, H7, I7.unpinned, q7⟩
    | ret v => obtain ⟨x7, σ7, H7, I7, r7, q7⟩ := q7; exact ⟨x7, σ7, H7, I7.unpinned, r7, q7⟩
end
end L2
namespace L2
open PySem PySem.Spec PyProof.Rows
abbrev R2 := V → V → Hp → VK → Prop
def OpR (X : Cx) (f : Value → Value → Sem Value) (r : R2) : Prop :=
  ∀ (pins : List (Addr × Obj)) (s : Shared) (σ : St) (H : Hp) (x y : V) (v u : Value) (Q : VK), Inv X pins σ H s → RelV x v → RelV y u → r x y H Q →
    wpAny (model X.prog X.w) X.A (f v u) (EP X pins σ Q) X.xe s
def UnR (X : Cx) (f : Value → Sem Value) (r : V → Hp → VK → Prop) : Prop :=
  ∀ (pins : List (Addr × Obj)) (s : Shared) (σ : St) (H : Hp) (x : V) (v : Value) (Q : VK), Inv X pins σ H s → RelV x v → r x H Q →
    wpAny (model X.prog X.w) X.A (f v) (EP X pins σ Q) X.xe s
def CallR (X : Cx) (f : Value) (r : List V → Hp → VK → Prop) : Prop :=
  ∀ (pins : List (Addr × Obj)) (s : Shared) (σ : St) (H : Hp) (xs : List V) (us : List Value) (Q : VK), Inv X pins σ H s → Vals xs us → r xs H Q →
    wpAny (model X.prog X.w) X.A (call f us) (EP X pins σ Q) X.xe s
def TruR (X : Cx) (r : V → Hp → (Bool → Hp → Prop) → Prop) : Prop :=
  ∀ (pins : List (Addr × Obj)) (s : Shared) (σ : St) (H : Hp) (x : V) (v : Value) (Q : Bool → Hp → Prop), Inv X pins σ H s → RelV x v → r x H Q →
    wpAny (model X.prog X.w) X.A (truthy v) (TP X pins σ Q) X.xe s
def tOp (r : R2) (ta tb : TE) : TE := fun σ H Q => ta σ H fun x H1 => tb σ H1 fun y H2 => r x y H2 Q
def tUn (r : V → Hp → VK → Prop) (ta : TE) : TE := fun σ H Q => ta σ H fun x H1 => r x H1 Q
def rI (C : Int → Int → Prop) (g : Int → Int → V) : R2 := fun x y H Q => ∃ i j, x = .int i ∧ y = .int j ∧ C i j ∧ Q (g i j) H
def rI0 (g : Int → Int → V) : R2 := fun x y H Q => ∃ i j, x = .int i ∧ y = .int j ∧ Q (g i j) H
def rU (g : Int → V) : V → Hp → VK → Prop := fun x H Q => ∃ i, x = .int i ∧ Q (g i) H
section
variable {X : Cx} {a b c : Expr} {ta tb tc : TE} {pos : Pos}
theorem binT (ha : PE X a ta) (hb : PE X b tb) {pins : List (Addr × Obj)} {s : Shared} {σ : St} {H : Hp} {R : V → V → Hp → Prop} (I : Inv X pins σ H s)
    (h : ta σ H fun x H1 => tb σ H1 fun y H2 => R x y H2) {Q : Value → Shared → Prop} {f : Value → Value → Sem Value}
    (hf : ∀ v u s2 x y H2, Inv X pins σ H2 s2 → RelV x v → RelV y u → R x y H2 → wpAny (model X.prog X.w) X.A (f v u) Q X.xe s2) :
    wpAny (model X.prog X.w) X.A (eval a X.env) (fun v s₁ => wpAny (model X.prog X.w) X.A (eval b X.env) (fun u s₂ => wpAny (model X.prog X.w) X.A (f v u) Q X.xe s₂) X.xe s₁) X.xe s := by
  refine thn (ha pins s σ H _ I h) fun v s1 ⟨x, H1, I1, r1, q1⟩ => ?_
  refine thn (hb pins s1 σ H1 _ I1 q1) fun u s2 ⟨y, H2, I2, r2, q2⟩ => ?_
  exact hf v u s2 x y H2 I2 r1 r2 q2
theorem pe_op {op : Operator} {r : R2} (ho : OpR X (binaryOp op) r) (ha : PE X a ta) (hb : PE X b tb) : PE X (.BinOp a op b pos) (tOp r ta tb) := by
  intro pins s σ H Q I h
  exact wpAny_BinOp (binT ha hb I h fun v u s2 x y H2 I2 rx ry q => ho pins s2 σ H2 x y v u Q I2 rx ry q)
theorem pe_un {op : UnaryOp} {r : V → Hp → VK → Prop} (ho : UnR X (unaryOp op) r) (ha : PE X a ta) : PE X (.UnaryOp op a pos) (tUn r ta) := by
  intro pins s σ H Q I h
  exact UnaryOp_ (thn (ha pins s σ H _ I h) fun v s1 ⟨x, H1, I1, r1, q1⟩ => ho pins s1 σ H1 x v Q I1 r1 q1)
theorem opI {f : Value → Value → Sem Value} {C : Int → Int → Prop} {g : Int → Int → Int}
    (rule : ∀ (i j : Int) (t u : Tok) (s : Shared) (Q : Value → Shared → Prop) (E : Value → Shared → Prop), C i j → Q (.int (g i j) s.toks) { s with toks := s.toks + 1 } → wpAny (model X.prog X.w) X.A (f (.int i t) (.int j u)) Q E s) :
    OpR X f (rI C fun i j => .int (g i j)) := by
  intro pins s σ H x y v u Q I rx ry h
  obtain ⟨i, j, rfl, rfl, hc, q⟩ := h
  obtain ⟨t, rfl⟩ := rx
  obtain ⟨t', rfl⟩ := ry
  exact rule i j t t' s _ _ hc ⟨.int (g i j), H, I.tok _, ⟨_, rfl⟩, q⟩
theorem opI0 {f : Value → Value → Sem Value} {g : Int → Int → Int}
    (rule : ∀ (i j : Int) (t u : Tok) (s : Shared) (Q : Value → Shared → Prop) (E : Value → Shared → Prop), Q (.int (g i j) s.toks) { s with toks := s.toks + 1 } → wpAny (model X.prog X.w) X.A (f (.int i t) (.int j u)) Q E s) :
    OpR X f (rI0 fun i j => .int (g i j)) := by
  intro pins s σ H x y v u Q I rx ry h
  obtain ⟨i, j, rfl, rfl, q⟩ := h
  obtain ⟨t, rfl⟩ := rx
  obtain ⟨t', rfl⟩ := ry
  exact rule i j t t' s _ _ ⟨.int (g i j), H, I.tok _, ⟨_, rfl⟩, q⟩
theorem opB0 {f : Value → Value → Sem Value} {g : Int → Int → Bool}
    (rule : ∀ (i j : Int) (t u : Tok) (s : Shared) (Q : Value → Shared → Prop) (E : Value → Shared → Prop), Q (.bool (g i j)) s → wpAny (model X.prog X.w) X.A (f (.int i t) (.int j u)) Q E s) :
    OpR X f (rI0 fun i j => .bl (g i j)) := by
  intro pins s σ H x y v u Q I rx ry h
  obtain ⟨i, j, rfl, rfl, q⟩ := h
  obtain ⟨t, rfl⟩ := rx
  obtain ⟨t', rfl⟩ := ry
  exact rule i j t t' s _ _ ⟨.bl (g i j), H, I, rfl, q⟩
def CDiv (i j : Int) : Prop := 0 < j ∧ j < 1073741824
def CPow (i j : Int) : Prop := 0 ≤ j ∧ j ≤ 1000000 ∧ i.natAbs < 2 ^ 64
def CMul (i j : Int) : Prop := (-(2 ^ 64) < i ∧ i < 2 ^ 64) ∨ (-(2 ^ 64) < j ∧ j < 2 ^ 64)
theorem CMul.ok {i j : Int} (h : CMul i j) : IntMulOk i j := by
  rcases h with ⟨h1, h2⟩ | ⟨h1, h2⟩
  · exact .of_left (intBits_le_64 h1 h2)
  · exact .of_right (intBits_le_64 h1 h2)
theorem op_add : OpR X (binaryOp .Add) (rI0 fun i j => .int (i + j)) := opI0 fun _ _ _ _ _ _ _ q => add_int q
theorem op_sub : OpR X (binaryOp .Sub) (rI0 fun i j => .int (i - j)) := opI0 fun _ _ _ _ _ _ _ q => sub_int q
theorem op_mul : OpR X (binaryOp .Mult) (rI CMul fun i j => .int (i * j)) := opI fun _ _ _ _ _ _ _ hc q => mul_int q hc.ok
theorem op_fdiv : OpR X (binaryOp .FloorDiv) (rI CDiv fun i j => .int (i / j)) := opI fun i j _ _ _ _ _ hc q => by
  have h1 : (0 : Int) < j := hc.1
  have h2 : j < 1073741824 := hc.2
  exact floordiv_int (by omega) (by rw [Int.fdiv_eq_ediv_of_nonneg i (by omega)]; exact q) (.inl (PyProof.noPylong_small (by omega)))
theorem op_mod : OpR X (binaryOp .Mod) (rI (fun _ j => 0 < j) fun i j => .int (i % j)) := opI fun i j _ _ _ _ _ hc q => by
  have h1 : (0 : Int) < j := hc
  exact mod_int' (by omega) (by rw [Int.fmod_eq_emod_of_nonneg i (by omega)]; exact q)
theorem op_pow : OpR X (binaryOp .Pow) (rI CPow fun i j => .int (i ^ j.toNat)) := opI fun _ _ _ _ _ _ _ hc q => pow_int_small hc.1 hc.2.1 hc.2.2 q
theorem iop_add : OpR X (inplaceOp .Add) (rI0 fun i j => .int (i + j)) := opI0 fun _ _ _ _ _ _ _ q => iadd_int q
theorem unI {f : Value → Sem Value} {g : Int → Int}
    (rule : ∀ (i : Int) (t : Tok) (s : Shared) (Q : Value → Shared → Prop) (E : Value → Shared → Prop), Q (.int (g i) s.toks) { s with toks := s.toks + 1 } → wpAny (model X.prog X.w) X.A (f (.int i t)) Q E s) :
    UnR X f (rU fun i => .int (g i)) := by
  intro pins s σ H x v Q I rx h
  obtain ⟨i, rfl, q⟩ := h
  obtain ⟨t, rfl⟩ := rx
  exact rule i t s _ _ ⟨.int (g i), H, I.tok _, ⟨_, rfl⟩, q⟩
theorem un_neg : UnR X (unaryOp .USub) (rU fun i => .int (-i)) := unI fun _ _ _ _ _ q => neg_int q
end
section
variable {X : Cx} {a b c : Expr} {ta tb tc : TE} {pos : Pos}
theorem fin_bl {pins : List (Addr × Obj)} {σ : St} {H : Hp} {s : Shared} {Q : VK} {k k' : Bool} (I : Inv X pins σ H s) (q : Q (.bl k) H) (e : k = k') : EP X pins σ Q (.bool k') s := by
  subst e
  exact ⟨.bl k, H, I, rfl, q⟩
theorem op_lt : OpR X (compareOp .Lt) (rI0 fun i j => .bl (decide (i < j))) := opB0 fun _ _ _ _ _ _ _ q => lt_int q
theorem op_le : OpR X (compareOp .LtE) (rI0 fun i j => .bl (decide (i ≤ j))) := opB0 fun _ _ _ _ _ _ _ q => le_int q
theorem op_gt : OpR X (compareOp .Gt) (rI0 fun i j => .bl (decide (j < i))) := opB0 fun _ _ _ _ _ _ _ q => gt_int q
theorem op_ge : OpR X (compareOp .GtE) (rI0 fun i j => .bl (decide (j ≤ i))) := opB0 fun _ _ _ _ _ _ _ q => ge_int q
theorem op_lt_str : OpR X (compareOp .Lt) (fun x y H Q => ∃ i j, x = .str i ∧ y = .str j ∧ Q (.bl (decide (i.cps.toList < j.cps.toList))) H) := by
  intro pins s σ H x y v u Q I rx ry h
  obtain ⟨i, j, rfl, rfl, q⟩ := h
  obtain ⟨t, rfl⟩ := rx
  obtain ⟨t', rfl⟩ := ry
  exact lt_str (fin_bl I q rfl)
theorem op_isN : OpR X (compareOp .Is) (fun x y H Q => y = .non ∧ Q (.bl (decide (x = .non))) H) := by
  intro pins s σ H x y v u Q I rx ry h
  obtain ⟨rfl, q⟩ := h
  cases ry
  refine is_none_gen (fin_bl I q ?_)
  cases x <;> first
    | (cases rx; rfl)
    | (obtain ⟨t, rfl⟩ := rx; rfl)
theorem op_notN : OpR X (compareOp .IsNot) (fun x y H Q => y = .non ∧ Q (.bl (!decide (x = .non))) H) := by
  intro pins s σ H x y v u Q I rx ry h
  obtain ⟨rfl, q⟩ := h
  cases ry
  refine isnot_none_gen (fin_bl I q ?_)
  cases x <;> first
    | (cases rx; rfl)
    | (obtain ⟨t, rfl⟩ := rx; rfl)
theorem OpR.or {f : Value → Value → Sem Value} {r r' : R2} (h : OpR X f r) (h' : OpR X f r') : OpR X f (fun x y H Q => r x y H Q ∨ r' x y H Q) := by
  intro pins s σ H x y v u Q I rx ry q
  rcases q with q | q
  · exact h pins s σ H x y v u Q I rx ry q
  · exact h' pins s σ H x y v u Q I rx ry q
theorem nomark (b : Expr) {op : CmpOp} (h : op ≠ .In := by decide) (h2 : op ≠ .NotIn := by decide) : behindInMarks op b = false := by
  have e1 : (op == CmpOp.In) = false := by cases op <;> first | rfl | exact absurd rfl h
  have e2 : (op == CmpOp.NotIn) = false := by cases op <;> first | rfl | exact absurd rfl h2
  cases b <;> simp [behindInMarks, e1, e2]
theorem pe_cmpR {op : CmpOp} {r : R2} (ho : OpR X (compareOp op) r) (ha : PE X a ta) (hb : PE X b tb) (hm : behindInMarks op b = false) : PE X (.Compare a [op] [b] pos) (tOp r ta tb) := by
  intro pins s σ H Q I h
  exact wpAny_Compare1 (binT ha hb I h fun v u s2 x y H2 I2 rx ry q => ho pins s2 σ H2 x y v u Q I2 rx ry q) hm
def tTest (t : TE) : TT := fun σ H Q => t σ H fun x H' => ∃ k, x = .bl k ∧ Q k H'
theorem pt_cmpR {op : CmpOp} {r : R2} (ho : OpR X (compareOp op) r) (ha : PE X a ta) (hb : PE X b tb) (hm : behindInMarks op b = false) : PT X (.Compare a [op] [b] pos) (tTest (tOp r ta tb)) := by
  intro pins s σ H Q I h
  refine wpAny_isTrue_Compare1 (thn (ha pins s σ H _ I h) fun v s1 ⟨x, H1, I1, r1, q1⟩ => thn (hb pins s1 σ H1 _ I1 q1) fun u s2 ⟨y, H2, I2, r2, q2⟩ =>
    thn (ho pins s2 σ H2 x y v u _ I2 r1 r2 q2) fun c s3 ⟨z, H3, I3, r3, k, e, q3⟩ => ?_) hm
  subst e
  cases r3
  exact wpAny_truthy_bool ⟨H3, I3, q3⟩
def tChain (r r' : R2) (ta tb tc : TE) : TE := fun σ H Q => ta σ H fun x H1 => tb σ H1 fun y H2 => r x y H2 fun z H3 => ∃ k, z = .bl k ∧
  (if k = true then tc σ H3 fun w' H4 => r' y w' H4 Q else Q (.bl false) H3)
theorem pe_chain {op op' : CmpOp} {r r' : R2} (ho : OpR X (compareOp op) r) (ho' : OpR X (compareOp op') r') (ha : PE X a ta) (hb : PE X b tb) (hc : PE X c tc)
    (hm : lastMarks [op, op'] [b, c] = false := by with_unfolding_all rfl) : PE X (.Compare a [op, op'] [b, c] pos) (tChain r r' ta tb tc) := by
  intro pins s σ H Q I h
  refine Compare_chain (thn (ha pins s σ H _ I h) fun v s1 ⟨x, H1, I1, r1, q1⟩ => chain_link (thn (hb pins s1 σ H1 _ I1 q1) fun u s2 ⟨y, H2, I2, r2, q2⟩ =>
    thn (ho pins s2 σ H2 x y v u _ I2 r1 r2 q2) fun d s3 ⟨z, H3, I3, r3, k, e, q3⟩ => ?_)) hm
  subst e
  cases r3
  refine wpAny_truthy_bool ?_
  cases k with
  | false => exact ite_ff ⟨.bl false, H3, I3, rfl, q3⟩
  | true => exact ite_tt (chain_last (thn (hc pins s3 σ H3 _ I3 q3) fun w' s4 ⟨z', H4, I4, r4, q4⟩ => ho' pins s4 σ H4 y z' u w' Q I4 r2 r4 q4))
theorem pt_chain {op op' : CmpOp} {r r' : R2} (ho : OpR X (compareOp op) r) (ho' : OpR X (compareOp op') r') (ha : PE X a ta) (hb : PE X b tb) (hc : PE X c tc)
    (hm : lastMarks [op, op'] [b, c] = false := by with_unfolding_all rfl) : PT X (.Compare a [op, op'] [b, c] pos) (tTest (tChain r r' ta tb tc)) := by
  intro pins s σ H Q I h
  refine isTrue_chain (thn (ha pins s σ H _ I h) fun v s1 ⟨x, H1, I1, r1, q1⟩ => test_link (thn (hb pins s1 σ H1 _ I1 q1) fun u s2 ⟨y, H2, I2, r2, q2⟩ =>
    thn (ho pins s2 σ H2 x y v u _ I2 r1 r2 q2) fun d s3 ⟨z, H3, I3, r3, k, e, q3⟩ => ?_)) hm
  subst e
  cases r3
  refine wpAny_truthy_bool ?_
  cases k with
  | false =>
    obtain ⟨k', e', q'⟩ := q3
    cases e'
    exact ite_ff ⟨H3, I3, q'⟩
  | true =>
    refine ite_tt (test_last (thn (hc pins s3 σ H3 _ I3 q3) fun w' s4 ⟨z', H4, I4, r4, q4⟩ => thn (ho' pins s4 σ H4 y z' u w' _ I4 r2 r4 q4) fun d' s5 ⟨z2, H5, I5, r5, k2, e2, q5⟩ => ?_))
    subst e2
    cases r5
    exact wpAny_truthy_bool ⟨H5, I5, q5⟩
def TruV (K : PySem.W.Frag) (x : V) (H : Hp) (k : Bool) : Prop :=
  match x with
  | .non => k = false
  | .bl b => k = b
  | .int i => k = (i != 0)
  | .str y => y.length ≤ sizeLine ∧ k = ((y.length : Int) != 0)
  | .byt y => y.size ≤ sizeLine ∧ k = ((y.size : Int) != 0)
  | .ref p => (∃ xs, SqL K H p xs ∧ k = !xs.isEmpty) ∨ (∃ xs, SqT K H p xs ∧ k = !xs.isEmpty) ∨ ∃ kvs, H p = some (.dK kvs) ∧ k = !kvs.isEmpty
  | _ => False
theorem isEmpty_kv {κ : Type} {kvs : List (κ × V)} {vs : List (κ × Value)} (r : KV kvs vs) : (!vs.isEmpty) = !kvs.isEmpty := by
  cases r <;> rfl
theorem isEmpty_of {xs : List V} {its : List Value} (r : Vals xs its) : (!its.toArray.isEmpty) = !xs.isEmpty := by
  cases r <;> simp
theorem line63 : (sizeLine : Nat) < 2 ^ 63 := by rw [sizeLine_eq]; decide
theorem tru_ok : TruR X (fun x H Q => ∃ k, TruV X.K x H k ∧ Q k H) := by
  intro pins s σ H x v Q I rx h
  obtain ⟨k, e, q⟩ := h
  have hl := line63
  have hs : sizeLine = 16777216 := sizeLine_eq
  cases x with
  | non =>
    cases rx
    have e' : k = false := e
    subst e'
    exact truthy_none ⟨H, I, q⟩
  | bl b =>
    cases rx
    have e' : k = b := e
    subst e'
    exact wpAny_truthy_bool ⟨H, I, q⟩
  | int i =>
    obtain ⟨t, rfl⟩ := rx
    have e' : k = (i != 0) := e
    subst e'
    exact PySem.P.truthy_int ⟨H, I, q⟩
  | str y =>
    obtain ⟨t, rfl⟩ := rx
    obtain ⟨hy, e'⟩ : y.length ≤ sizeLine ∧ k = ((y.length : Int) != 0) := e
    subst e'
    exact PySem.P.truthy_str (by omega) ⟨H, I.tok _, q⟩
  | byt y =>
    obtain ⟨t, rfl⟩ := rx
    obtain ⟨hy, e'⟩ : y.size ≤ sizeLine ∧ k = ((y.size : Int) != 0) := e
    subst e'
    exact PySem.W.truthy_bytes (by omega) ⟨H, I.tok _, q⟩
  | ref p =>
    cases rx
    have e' : (∃ xs, SqL X.K H p xs ∧ k = !xs.isEmpty) ∨ (∃ xs, SqT X.K H p xs ∧ k = !xs.isEmpty) ∨ ∃ kvs, H p = some (.dK kvs) ∧ k = !kvs.isEmpty := e
    rcases e' with ⟨xs, hx, e'⟩ | ⟨xs, hx, e'⟩ | ⟨kvs, hx, e'⟩
    · subst e'
      obtain ⟨its, r, pl, hz⟩ := I.list hx
      have hlen := r.length
      exact wpAny_truthy_list pl.isList (by simp only [List.size_toArray]; omega) ⟨H, I.tok _, by rw [isEmpty_of r]; exact q⟩
    · subst e'
      obtain ⟨its, r, pl, hz⟩ := I.tuple hx
      have hlen := r.length
      exact truthy_tuple pl (by simp only [List.size_toArray]; omega) ⟨H, I.tok _, by rw [isEmpty_of r]; exact q⟩
    · subst e'
      obtain ⟨hz, hS, vs, r, m⟩ : kvs.length ≤ sizeLine ∧ (p == sysModules) = false ∧ ∃ vs, KV kvs vs ∧ s.heap.DictOf (mixKind X.prog X.w) p vs := I.hok p _ hx
      have hlen : kvs.length = vs.length := Paired.length r
      exact wpAny_truthy_dict hS m (by omega) ⟨H, I.tok _, by rw [isEmpty_kv r]; exact q⟩
  | _ => exact (show False from e).elim
theorem pt_truth (ha : PE X a ta) (he : ∀ whole, isTrue a X.env whole = (do let v ← whole; standAt a.pos; holding [v] (truthy v))) :
    PT X a (fun σ H Q => ta σ H fun x H' => ∃ k, TruV X.K x H' k ∧ Q k H') := by
  intro pins s σ H Q I h
  exact isTrue_plain (thn (ha pins s σ H _ I h) fun v s1 ⟨x, H1, I1, r1, q1⟩ => tru_ok pins s1 σ H1 x v Q I1 r1 q1) (he _)
theorem op_add_str : OpR X (binaryOp .Add) (fun x y H Q => ∃ i j, x = .str i ∧ y = .str j ∧ i.length + j.length ≤ sizeLine ∧ Q (.str (i ++ j)) H) := by
  intro pins s σ H x y v u Q I rx ry h
  obtain ⟨i, j, rfl, rfl, hz, q⟩ := h
  obtain ⟨t, rfl⟩ := rx
  obtain ⟨t', rfl⟩ := ry
  exact add_str (fun t' tk => ⟨.str (i ++ j), H, I.tok _, ⟨_, rfl⟩, q⟩) hz
theorem iop_add_str : OpR X (inplaceOp .Add) (fun x y H Q => ∃ i j, x = .str i ∧ y = .str j ∧ i.length + j.length ≤ sizeLine ∧ Q (.str (i ++ j)) H) := by
  intro pins s σ H x y v u Q I rx ry h
  obtain ⟨i, j, rfl, rfl, hz, q⟩ := h
  obtain ⟨t, rfl⟩ := rx
  obtain ⟨t', rfl⟩ := ry
  exact iadd_str (fun t' tk => ⟨.str (i ++ j), H, I.tok _, ⟨_, rfl⟩, q⟩) hz
theorem vals1 {x : V} {us : List Value} (r : Vals [x] us) : ∃ u, us = [u] ∧ RelV x u := by
  cases r with
  | cons r1 r2 => cases r2; exact ⟨_, rfl, r1⟩
theorem vals2 {x y : V} {us : List Value} (r : Vals [x, y] us) : ∃ u w', us = [u, w'] ∧ RelV x u ∧ RelV y w' := by
  cases r with
  | cons r1 r2 =>
    cases r2 with
    | cons r3 r4 => cases r4; exact ⟨_, _, rfl, r1, r3⟩
theorem call_abs : CallR X (.builtin "abs") (fun xs H Q => ∃ i, xs = [.int i] ∧ Q (.int (if i < 0 then -i else i)) H) := by
  intro pins s σ H xs us Q I r h
  obtain ⟨i, rfl, q⟩ := h
  obtain ⟨u, rfl, t, rfl⟩ := vals1 r
  exact call_abs_int fun u tk => ⟨.int (if i < 0 then -i else i), H, I.tok _, ⟨_, rfl⟩, q⟩
theorem call_min2 (hc : X.calm = true) : CallR X (.builtin "min") (fun xs H Q => ∃ i j, xs = [.int i, .int j] ∧ Q (.int (if j < i then j else i)) H) := by
  intro pins s σ H xs us Q I r h
  obtain ⟨i, j, rfl, q⟩ := h
  obtain ⟨u, w', rfl, ⟨t, rfl⟩, ⟨t', rfl⟩⟩ := vals2 r
  refine min_two_ints (I.ok.hd hc) fun h' tk k => ⟨_, H, I.kept k, ?_, q⟩
  by_cases hj : j < i
  · rw [if_pos hj, if_pos hj]; exact ⟨_, rfl⟩
  · rw [if_neg hj, if_neg hj]; exact ⟨_, rfl⟩
theorem call_int1 : CallR X (.type "int") (fun xs H Q => (∃ i, xs = [.int i] ∧ Q (.int i) H) ∨ ∃ k, xs = [.bl k] ∧ Q (.int (if k then 1 else 0)) H) := by
  intro pins s σ H xs us Q I r h
  rcases h with ⟨i, rfl, q⟩ | ⟨k, rfl, q⟩
  · obtain ⟨u, rfl, t, rfl⟩ := vals1 r
    exact call_int_int ⟨.int i, H, I, ⟨_, rfl⟩, q⟩
  · obtain ⟨u, rfl, r1⟩ := vals1 r
    cases r1
    exact call_int_bool ⟨.int (if k then 1 else 0), H, I.tok _, ⟨_, rfl⟩, q⟩
theorem call_ord : CallR X (.builtin "ord") (fun xs H Q => ∃ x, xs = [.str x] ∧ x.length = 1 ∧ Q (.int (x.cps.getD 0 0 : Nat)) H) := by
  intro pins s σ H xs us Q I r h
  obtain ⟨x, rfl, hz, q⟩ := h
  obtain ⟨u, rfl, t, rfl⟩ := vals1 r
  exact ord_of_one hz ⟨.int _, H, I.tok _, ⟨_, rfl⟩, q⟩
end
end L2
namespace L2
open PySem PySem.Spec PyProof.Rows
structure ObjM (h : Heap) (x dx C : Addr) (mA : Str → Option Value) : Prop where
  obj : h.get? x = some (PySem.W.instObj C dx)
  ns : h.Ns1 dx mA
  ne : dx ≠ x
theorem lookIn_ns {h : Heap} {dx : Addr} {mA : Str → Option Value} (n : h.Ns1 dx mA) : ∃ od, h.get? dx = some od ∧ ∀ name, PySem.W.lookIn name od = some (mA name) := by
  obtain ⟨o, es, ep, ho, hd, hk, _, hm⟩ := n
  refine ⟨o, ho, fun name => ?_⟩
  have e := hm name
  unfold nsFind findBy at e
  rw [← Array.find?_toList] at e
  unfold PySem.W.lookIn
  rw [hd]
  dsimp only
  split
  · rename_i y q
    rw [q] at e
    exact congrArg some e
  · rename_i q
    rw [q] at e
    have a : es.toList.any (·.refKey) = false := by
      rw [List.any_eq_false]
      intro y hy
      obtain ⟨z, t, hkey⟩ := hk y (Array.mem_toList_iff.mp hy)
      simp [DictEntry.refKey, hkey]
    have a' : ¬ es.toList.any (·.refKey) = true := by rw [a]; exact Bool.false_ne_true
    rw [if_neg a']
    exact congrArg some e
theorem ObjM.look {h : Heap} {x dx C : Addr} {mA : Str → Option Value} (I : ObjM h x dx C mA) : ∃ od, PySem.W.InstAt h x (PySem.W.instObj C dx) C (some od) ∧ ∀ name, PySem.W.lookIn name od = some (mA name) :=
  let ⟨od, ho, hl⟩ := lookIn_ns I.ns
  ⟨od, ⟨I.obj, rfl, rfl, ho⟩, hl⟩
section
variable {prog : Program} {w : World} {A : Around} {E : Value → Shared → Prop} {s : Shared} {K : PySem.W.Frag} {x dx C f : Addr} {mA : Str → Option Value} {name : Str} {v : Value}
end
section
variable {P : Program} {w : World} {H H' : Hp} {h h' : Heap} {a C dx : Addr} {fs fs' : List (Str × V)}
theorem ins_get (hok : HOk P w H h) (e : H a = some (.ins C dx fs)) : ∃ mA, ObjM h a dx C mA ∧ (∀ f, RelO (fs.lookup f) (mA f)) ∧ PySem.Within mA (fs.map (·.1)) ∧ fs.length ≤ 1000 ∧ H dx = some (.own a) := by
  obtain ⟨d, z, ne, ob, mA, n, r, q⟩ := (show ObjOk P w H h a (.ins C dx fs) from hok a _ e)
  exact ⟨mA, ⟨ob, n, ne⟩, r, q, z, d⟩
end
structure Cls (K : PySem.W.Frag) (C : Addr) : Prop where
  pg : PySem.W.plainGet K C Str.empty = true
  hd : PySem.W.hasDictIn K C = true
  po : PySem.W.plainOver K C = true
  sa : PySem.W.findIn K (.ref C) "__setattr__" = some (some (.builtin "object.__setattr__"))
theorem Cls.get {K : PySem.W.Frag} {C : Addr} (c : Cls K C) (f : Str) : PySem.W.plainGet K C f = true := c.pg
structure Con (K : PySem.W.Frag) (C : Addr) (f : Str) (v : V) (u : Value) : Prop where
  at_ : PySem.W.findIn K (.ref C) f = some (some u)
  rel : RelV v u
  get : PySem.W.specialIn K u "__get__" = some none
  cp : PySem.W.copiedNames.contains f = false
structure Meth (K : PySem.W.Frag) (C : Addr) (m : Str) (f : Addr) : Prop where
  at_ : PySem.W.findIn K (.ref C) m = some (some (.ref f))
  fn : PySem.W.isFn K (.ref f) = true
  kp : PySem.W.keepIn K (.ref f) = true
section
variable {X : Cx} {pins : List (Addr × Obj)} {σ : St} {H : Hp} {s : Shared} {a C dx : Addr} {fs : List (Str × V)} {f : Str} {v : V} {A : Around} {E : Value → Shared → Prop}
theorem Inv.made (I : Inv X pins σ H s) : Inv X pins σ (upd (upd H s.heap.objs.size (.own (s.heap.objs.size + 1))) (s.heap.objs.size + 1) (.ins C s.heap.objs.size []))
    { s with heap := (s.heap.push PySem.W.emptyDict).push (PySem.W.instObj C s.heap.objs.size) } := by
  have e1 : (s.heap.push PySem.W.emptyDict).get? s.heap.objs.size = some PySem.W.emptyDict := Heap.get?_push_size s.heap rfl
  have e2 : ((s.heap.push PySem.W.emptyDict).push (PySem.W.instObj C s.heap.objs.size)).get? (s.heap.objs.size + 1) = some (PySem.W.instObj C s.heap.objs.size) := by
    have := Heap.get?_push_size (s.heap.push PySem.W.emptyDict) (o := PySem.W.instObj C s.heap.objs.size) rfl
    rwa [Heap.size_push] at this
  have e3 : (s.heap.push PySem.W.emptyDict).Ns s.heap.objs.size (fun _ => none) := ⟨PySem.W.emptyDict, #[], _, e1, rfl, (fun e he => absurd he (by simp)), fun _ => rfl⟩
  have I1 := I.laid (a := s.heap.objs.size) (o := .own (s.heap.objs.size + 1)) (h' := s.heap.push PySem.W.emptyDict) (t' := s.toks) (fun b u q => Heap.get?_push_of_some _ q) (Nat.le_refl _) ⟨_, e1⟩
  refine I1.laid (a := s.heap.objs.size + 1) (o := .ins C s.heap.objs.size []) (t' := s.toks) (fun b u q => Heap.get?_push_of_some _ q) (Nat.le_of_eq (Heap.size_push _ _)) ?_
  have ne : s.heap.objs.size ≠ s.heap.objs.size + 1 := Nat.ne_of_lt (Nat.lt_succ_self _)
  refine ⟨by rw [upd_ne ne, upd_same], Nat.zero_le _, ne, e2, fun _ => none, (Heap.Ns1.of_empty e3).at fun o q => Heap.get?_push_of_some _ q, fun _ => True.intro, fun y hy => absurd rfl hy⟩
end
section
variable {X : Cx} {o e value : Expr} {f : Str} {pos pos' tpos : Pos} {ta tv : TE}
end
section
variable {X : Cx} {pins : List (Addr × Obj)} {σ : St} {H : Hp} {s : Shared} {A : Around} {E : Value → Shared → Prop} {Q : Value → Shared → Prop} {c : Value} {b : Bool}
inductive TyOf (K : PySem.W.Frag) (H : Hp) : V → Value → Prop where
  | non : TyOf K H .non (.type "NoneType")
  | bl (x : Bool) : TyOf K H (.bl x) (.type "bool")
  | int (i : Int) : TyOf K H (.int i) (.type "int")
  | str (x : Str) : TyOf K H (.str x) (.type "str")
  | flt (x : UInt64) : TyOf K H (.flt x) (.type "float")
  | lst {a : Addr} {xs : List V} (e : H a = some (.lst xs)) : TyOf K H (.ref a) (.type "list")
  | frz {a : Addr} {o : Obj} {xs : List V} (e : H a = some (.frz o (.lst xs))) : TyOf K H (.ref a) (.type "list")
  | tup {a : Addr} {xs : List V} (e : H a = some (.tup xs)) : TyOf K H (.ref a) (.type "tuple")
  | dK {a : Addr} {kvs : List (Key × V)} (e : H a = some (.dK kvs)) : TyOf K H (.ref a) (.type "dict")
  | dT {a : Addr} {kvs : List (List Key × V)} (e : H a = some (.dT kvs)) : TyOf K H (.ref a) (.type "dict")
  | ins {a C dx : Addr} {fs : List (Str × V)} (e : H a = some (.ins C dx fs)) (cl : Cls K C) (ha : PySem.W.findIn K (.ref C) "__class__" = some (some (.builtin "object.__class__")))
      (hn : PySem.W.specialIn K (.builtin "object.__class__") "__get__" = some (some (.builtin "getset_descriptor.__get__"))) (htk : PySem.W.takesIn K (.builtin "object.__class__") = some true)
      (hm : PySem.W.mroIn K C (.type "object") = some true) : TyOf K H (.ref a) (.ref C)
theorem isinst_ok {x : V} {u t : Value} (I : Inv X pins σ H s) (rx : RelV x u) (ty : TyOf X.K H x t) (e : PySem.W.kitOne X.K t c = some b) (h : ∀ tk, Q (.bool b) { s with toks := tk }) :
    wpAny (model X.prog X.w) A (call (.builtin "isinstance") [u, c]) Q E s := by
  cases ty with
  | non => cases (show u = Value.none from rx); exact PySem.W.kia_one PySem.W.kitx_none I.kIn True.intro e (fun z => nomatch z) h
  | bl y => cases (show u = Value.bool y from rx); exact PySem.W.kia_one PySem.W.kitx_bool I.kIn True.intro e (fun z => nomatch z) h
  | int i => obtain ⟨t, q⟩ := (show ∃ t, u = Value.int i t from rx); cases q; exact PySem.W.kia_one PySem.W.kitx_int I.kIn True.intro e (fun z => nomatch z) h
  | str y => obtain ⟨t, q⟩ := (show ∃ t, u = Value.str y t from rx); cases q; exact PySem.W.kia_one PySem.W.kitx_str I.kIn True.intro e (fun z => nomatch z) h
  | flt y => obtain ⟨t, q⟩ := (show ∃ t, u = Value.float y t from rx); cases q; exact PySem.W.kia_one PySem.W.kitx_float I.kIn True.intro e (fun z => nomatch z) h
  | @lst a xs ea =>
    cases (show u = Value.ref a from rx)
    obtain ⟨_, _, n, _, h1⟩ := (show ObjOk X.prog X.w H s.heap a (.lst xs) from I.hok a _ ea)
    exact PySem.W.kia_one PySem.W.kitx_list I.kIn ⟨_, h1, rfl⟩ e (fun z => nomatch z) h
  | @frz a ob xs ea =>
    cases (show u = Value.ref a from rx)
    obtain ⟨_, _, _, n, _, h1⟩ := (show ObjOk X.prog X.w H s.heap a (.frz ob (.lst xs)) from I.hok a _ ea)
    exact PySem.W.kia_one PySem.W.kitx_list I.kIn ⟨_, h1, rfl⟩ e (fun z => nomatch z) h
  | @tup a xs ea =>
    cases (show u = Value.ref a from rx)
    obtain ⟨_, _, _, p⟩ := (show ObjOk X.prog X.w H s.heap a (.tup xs) from I.hok a _ ea)
    obtain ⟨o, h1, h2, _⟩ := p
    exact PySem.W.kia_one PySem.W.kitx_tuple I.kIn ⟨o, h1, h2⟩ e (fun z => nomatch z) h
  | @dK a kvs ea =>
    cases (show u = Value.ref a from rx)
    obtain ⟨_, _, vs, _, p⟩ := (show ObjOk X.prog X.w H s.heap a (.dK kvs) from I.hok a _ ea)
    obtain ⟨o, es, ep, h1, h2, _⟩ := p
    exact PySem.W.kia_one PySem.W.kitx_dict I.kIn ⟨o, h1, h2.1⟩ e (fun z => nomatch z) h
  | @dT a kvs ea =>
    cases (show u = Value.ref a from rx)
    obtain ⟨_, _, xs, _, o, es, ep, h1, h2, _⟩ := (show ObjOk X.prog X.w H s.heap a (.dT kvs) from I.hok a _ ea)
    exact PySem.W.kia_one PySem.W.kitx_dict I.kIn ⟨o, h1, h2.1⟩ e (fun z => nomatch z) h
  | @ins a C dx fs ea cl ha hn htk hm =>
    cases (show u = Value.ref a from rx)
    obtain ⟨mA, O, _⟩ := ins_get I.hok ea
    obtain ⟨od, J, _⟩ := O.look
    exact PySem.W.kia_one (PySem.W.kitx_own (cl.get _) cl.hd ha hn htk hm) I.kIn J e (fun z => nomatch z) h
end
end L2
namespace L2
open PySem PySem.Spec PyProof.Rows
structure Room (k : Nat) (A : Around) : Prop where
  hd : A.handled = none
  dp : A.depth + 3 * k + 5 < recursionLimit
  un : A.units + 16 * k + 200 < cLine
theorem Room.mono {j k : Nat} {A : Around} (r : Room k A) (h : j ≤ k) : Room j A := ⟨r.hd, by have := r.dp; omega, by have := r.un; omega⟩
theorem Room.deeper {k : Nat} {A : Around} (r : Room (k + 1) A) (env : Env) : Room k (A.deeper env) :=
  ⟨r.hd, by have := r.dp; show A.depth + 1 + 3 * k + 5 < _; omega, by have := r.un; show A.units + 3 + 16 * k + 200 < _; omega⟩
theorem Room.in1 {k : Nat} {A : Around} (r : Room (k + 1) A) : Room k A.in1 :=
  ⟨r.hd, by have := r.dp; show A.depth + 3 * k + 5 < _; omega, by have := r.un; show A.units + 1 + 16 * k + 200 < _; omega⟩
theorem Room.depth {k : Nat} {A : Around} (r : Room k A) : A.depth < recursionLimit := by have := r.dp; omega
theorem Room.units {k : Nat} {A : Around} (r : Room k A) : A.units + 64 < cLine := by have := r.un; omega
def tNil : TA := fun _ H Q => Q [] H
def tCons (ta : TE) (tr : TA) : TA := fun σ H Q => ta σ H fun x H1 => tr σ H1 fun xs H2 => Q (x :: xs) H2
section
variable {X : Cx} {e : Expr} {es : List Expr} {te : TE} {t : TA} {pos : Pos}
theorem pa_nil : PA X [] tNil := fun _ _ _ _ H Q I h => Calls.spliced_nil ⟨[], H, I, .nil, h⟩
theorem pa_cons (ha : PE X e te) (hr : PA X es t) (hs : starEach (e :: es) X.env = (false, eval e X.env) :: starEach es X.env := by rfl) : PA X (e :: es) (tCons te t) := by
  intro pos pins s σ H Q I h
  rw [hs]
  show wpAny _ _ (spliced ((false, eval e X.env) :: backTo pos (starEach es X.env))) _ _ s
  refine Calls.spliced_cons (thn (ha pins s σ H _ I h) fun u s1 ⟨x, H1, I1, r1, q1⟩ => ?_)
  exact thn (hr pos pins s1 σ H1 _ I1 q1) fun us s2 ⟨xs, H2, I2, r2, q2⟩ => ⟨x :: xs, H2, I2, .cons r1 r2, q2⟩
def tTup (t : TA) : TE := fun σ H Q => t σ H fun xs H1 => xs.length ≤ sizeLine ∧ ∀ p, H1 p = none → Q (.ref p) (upd H1 p (.tup xs))
def tLst (t : TA) : TE := fun σ H Q => t σ H fun xs H1 => xs.length ≤ sizeLine ∧ ∀ p, H1 p = none → Q (.ref p) (upd H1 p (.lst xs))
theorem pe_tup {x1} (h : PA X es t) : PE X (.Tuple es x1 pos) (tTup t) := by
  intro pins s σ H Q I hq
  refine wpAny_Tuple_spliced (thn (h pos pins s σ H _ I hq) fun us s1 ⟨xs, H1, I1, r, z, q⟩ => ⟨by rw [← r.length]; exact z, ?_⟩)
  have hf : H1 s1.heap.objs.size = none := I1.hok.fresh (Nat.le_refl _)
  refine ⟨.ref s1.heap.objs.size, upd H1 s1.heap.objs.size (.tup xs), I1.laid (t' := s1.toks) (fun b u e => Heap.get?_push_of_some _ e) (Nat.le_refl _) ?_, rfl, q _ hf⟩
  exact ⟨z, us, r, ⟨_, Heap.get?_push_size _ rfl, rfl, _, rfl⟩⟩
theorem pe_lst (h : PA X es t) : PE X (.List es pos) (tLst t) := by
  intro pins s σ H Q I hq
  refine wpAny_List_spliced (thn (h pos pins s σ H _ I hq) fun us s1 ⟨xs, H1, I1, r, z, q⟩ => ⟨by rw [← r.length]; exact z, ?_⟩)
  have hf : H1 s1.heap.objs.size = none := I1.hok.fresh (Nat.le_refl _)
  refine ⟨.ref s1.heap.objs.size, upd H1 s1.heap.objs.size (.lst xs), I1.laid (t' := s1.toks) (fun b u e => Heap.get?_push_of_some _ e) (Nat.le_refl _) ?_, rfl, q _ hf⟩
  exact ⟨z, us, 0, r, Heap.get?_push_size _ rfl⟩
end
abbrev Sp := List V → Hp → VK → XK → Prop
abbrev CXT := List Env → Hp → Shared → XK → Value → Shared → Prop
structure Env0 (P : Program) (w : World) (K : PySem.W.Frag) (mg : Str → Option Value) (base : Heap) (A : Around) (outer : List Env) (s : Shared) (H : Hp) : Prop where
  frames : A.frames = some outer
  mod : Mod K mg base
  bs : ∀ b o, base.get? b = some o → s.heap.get? b = some o ∧ H b = none
  bsz : base.objs.size ≤ s.heap.objs.size
  funs : s.heap.FunFrames base outer
  frf : ∀ b ∈ frs outer, H b = none
  hok : HOk P w H s.heap
  bare : AllBare s.gens
def CE (outer : List Env) (P : Program) (w : World) (H : Hp) (s : Shared) (Q : VK) (u : Value) (s' : Shared) : Prop :=
  ∃ v H', s'.os = s.os ∧ AllBare s'.gens ∧ Un (frs outer) [] H H' s.heap s'.heap ∧ HOk P w H' s'.heap ∧ RelV v u ∧ Q v H'
def CR (CX : CXT) (outer : List Env) (P : Program) (w : World) (H : Hp) (s : Shared) (Q : VK) (E : XK) (r : Result) (s' : Shared) : Prop :=
  match r with
  | .ok (.ret u) => CE outer P w H s Q u s'
  | .ok _ => False
  | .error e => CX outer H s E e s'
structure FnOk (P : Program) (w : World) (K : PySem.W.Frag) (mg : Str → Option Value) (base : Heap) (CX : CXT) (k : Nat) (f : Addr) (fd : FuncData) (ps : List Str) (sp : Sp) : Prop where
  len : ∀ vs H Q E, sp vs H Q E → vs.length = ps.length
  run : ∀ (A : Around) (outer : List Env) (s : Shared) (H : Hp) (args : Args) (us : List Value) (vs : List V) (Q : VK) (E : XK), Room k A → Env0 P w K mg base A outer s H → BindsTo s fd args (ps.zip us) → Vals vs us → sp vs H Q E →
    codeAny (model P w) A (.call (.ref f) args) (CR CX outer P w H s Q E) s
theorem FnOk.mono {P : Program} {w : World} {K : PySem.W.Frag} {mg : Str → Option Value} {base : Heap} {CX : CXT} {j k : Nat} {f : Addr} {fd : FuncData} {ps : List Str} {sp : Sp} (F : FnOk P w K mg base CX j f fd ps sp) (h : j ≤ k) :
    FnOk P w K mg base CX k f fd ps sp := ⟨F.len, fun A outer s H args us vs Q E hr => F.run A outer s H args us vs Q E (hr.mono h)⟩
theorem FnOk.imp {P : Program} {w : World} {K : PySem.W.Frag} {mg : Str → Option Value} {base : Heap} {CX : CXT} {k : Nat} {f : Addr} {fd : FuncData} {ps : List Str} {sp sp' : Sp} (F : FnOk P w K mg base CX k f fd ps sp)
    (h : ∀ vs H Q E, sp' vs H Q E → sp vs H Q E) : FnOk P w K mg base CX k f fd ps sp' :=
  ⟨fun vs H Q E q => F.len vs H Q E (h _ _ _ _ q), fun A outer s H args us vs Q E hr he hb hv hs => F.run A outer s H args us vs Q E hr he hb hv (h _ _ _ _ hs)⟩
theorem Env0.in1 {P : Program} {w : World} {K : PySem.W.Frag} {mg : Str → Option Value} {base : Heap} {A : Around} {outer : List Env} {s : Shared} {H : Hp} (e : Env0 P w K mg base A outer s H) :
    Env0 P w K mg base A.in1 outer s H := ⟨e.frames, e.mod, e.bs, e.bsz, e.funs, e.frf, e.hok, e.bare⟩
section
variable {X : Cx} {pins : List (Addr × Obj)} {σ : St} {H : Hp} {s s' : Shared}
theorem Inv.env0 (I : Inv X pins σ H s) : Env0 X.prog X.w X.K X.mg X.base X.A X.stack s H :=
  ⟨I.ok.frames, I.ok.mod, I.bs, Nat.le_trans I.ok.bsz I.sz, I.stack, I.stkFree, I.hok, I.bare⟩
theorem Inv.after {Q : VK} {u : Value} (I : Inv X pins σ H s) (h : CE X.stack X.prog X.w H s Q u s') : EP X pins σ Q u s' := by
  obtain ⟨v, H', os, bare, un, hok, r, q⟩ := h
  obtain ⟨hh, g, d, t, os'⟩ := s'
  obtain rfl : os' = s.os := os
  exact ⟨v, H', I.call (h' := hh) (g' := g) (d' := d) (t' := t) (ch := []) un hok bare (fun b z => absurd z (by simp)), r, q⟩
end
def tCall (sp : Sp) (dvs : List V) (E : XK) (t : TA) : TE := fun σ H Q => t σ H fun vs H1 => sp (vs ++ dvs) H1 Q E
def Binds (K : PySem.W.Frag) (fd : FuncData) (ps : List Str) (ds : List Value) : Prop :=
  ∀ (s : Shared) (us : List Value), K.In s.heap → (us ++ ds).length = ps.length → BindsTo s fd ⟨us, []⟩ (ps.zip (us ++ ds))
theorem Binds.all {K : PySem.W.Frag} {fd : FuncData} {ps : List Str} (h : ∀ us : List Value, us.length = ps.length → bindArgs fd ⟨us, []⟩ = pure (ps.zip us)) : Binds K fd ps [] := fun s us _ hl => by
  rw [List.append_nil] at hl ⊢
  exact .of_eq (h us hl)
def Passes (CX : CXT) (X : Cx) (E : XK) : Prop := ∀ (pins : List (Addr × Obj)) (σ : St) (H : Hp) (s : Shared) (e : Value) (s' : Shared), Inv X pins σ H s → CX X.stack H s E e s' → X.xe e s'
section
variable {X : Cx} {CX : CXT} {k : Nat} {f C : Addr} {fd : FuncData} {ps : List Str} {sp : Sp} {dvs : List V} {ds : List Value} {E : XK} {x m : Str} {p pos apos : Pos} {e o : Expr} {es : List Expr} {ta : TE} {t : TA}
theorem run_fn {pins : List (Addr × Obj)} {σ : St} {H : Hp} {s : Shared} {Q : VK} {us : List Value} {vs : List V} (F : FnOk X.prog X.w X.K X.mg X.base CX k f fd ps sp) (hr : Room k X.A) (hb : Binds X.K fd ps ds) (hd : Vals dvs ds) (hx : Passes CX X E)
    (I : Inv X pins σ H s) (r : Vals vs us) (h : sp (vs ++ dvs) H Q E) : wpAny (model X.prog X.w) X.A (call (.ref f) us) (EP X pins σ Q) X.xe s := by
  have r2 : Vals (vs ++ dvs) (us ++ ds) := r.append hd
  have hl : (us ++ ds).length = ps.length := by rw [← r2.length]; exact F.len _ _ _ _ h
  refine wpAny_call (codeAny_mono (F.run X.A X.stack s H ⟨us, []⟩ (us ++ ds) (vs ++ dvs) Q E hr I.env0 (hb s us I.kIn hl) r2 h) fun r s' hq => ?_)
  cases r with
  | error e => exact hx pins σ H s e s' I hq
  | ok fl =>
    cases fl with
    | ret u => exact I.after hq
    | next => exact False.elim hq
    | brk => exact False.elim hq
    | cont => exact False.elim hq
theorem pe_call (F : FnOk X.prog X.w X.K X.mg X.base CX k f fd ps sp) (hr : Room k X.A) (hg : Gl X x) (hm : X.mg x = some (.ref f)) (hk : PySem.W.keepIn X.K (.ref f) = true) (hb : Binds X.K fd ps ds) (hd : Vals dvs ds) (hx : Passes CX X E)
    (ha : PA X (e :: es) t) (hdb : (x == ("__debug__" : Str)) = false := by decide) (he : starEach (e :: es) X.env = (false, eval e X.env) :: starEach es X.env := by rfl) (hpl : (backTo pos (starEach es X.env)).any (·.1) = false := by rfl) :
    PE X (.Call (.Name x p) (e :: es) [] pos) (tCall sp dvs E t) := by
  intro pins s σ H Q I h
  refine wpAny_Call_Name_kw (ld_glob I hg hm ?_ hdb)
  refine PySem.W.callWith_K (h₀ := X.base) I.ok.mod.kin hk (thn (ha pos pins s σ H _ I h) fun us s1 ⟨vs, H1, I1, r, q⟩ => ⟨I1.kIn, ?_⟩) he hpl
  exact run_fn F hr hb hd hx I1 r q
theorem pe_call0 (F : FnOk X.prog X.w X.K X.mg X.base CX k f fd ps sp) (hr : Room k X.A) (hg : Gl X x) (hm : X.mg x = some (.ref f)) (hk : PySem.W.keepIn X.K (.ref f) = true) (hb : Binds X.K fd ps ds) (hd : Vals dvs ds) (hx : Passes CX X E)
    (hdb : (x == ("__debug__" : Str)) = false := by decide) : PE X (.Call (.Name x p) [] [] pos) (tCall sp dvs E tNil) := by
  intro pins s σ H Q I h
  refine wpAny_Call_Name_kw (ld_glob I hg hm ?_ hdb)
  exact PySem.W.callWith_K0 I.kIn hk (run_fn (us := []) F hr hb hd hx I .nil h)
structure Mk (K : PySem.W.Frag) (C f : Addr) : Prop where
  makes : PySem.W.makesIn K C = true
  init : PySem.W.findIn K (.ref C) "__init__" = some (some (.ref f))
  fn : PySem.W.isFn K (.ref f) = true
  kp : PySem.W.keepIn K (.ref C) = true
end
section
variable {X : Cx} {CX : CXT} {k : Nat} {f C : Addr} {fd : FuncData} {ps ks : List Str} {sp : Sp} {E : XK} {x m : Str} {p pos apos kpos : Pos} {e o : Expr} {es : List Expr} {kws : List Keyword} {te ta : TE} {t tk : TA} {nm : Option Str}
structure KBinds (K : PySem.W.Frag) (fd : FuncData) (ps ks : List Str) (g : List Value → List Value → List Value) (gV : List V → List V → List V) : Prop where
  to : ∀ (s : Shared) (us ws : List Value), K.In s.heap → (g us ws).length = ps.length → BindsTo s fd ⟨us, ks.zip ws⟩ (ps.zip (g us ws))
  rel : ∀ {vs : List V} {us : List Value} {zs : List V} {ws : List Value}, Vals vs us → Vals zs ws → Vals (gV vs zs) (g us ws)
variable {g : List Value → List Value → List Value} {gV : List V → List V → List V}
end
structure FnScope (N P : List Str) (sc : Scope) : Prop where
  kind : sc.kind = .function
  co : sc.isCoroutine = false
  gen : sc.isGenerator = false
  nd : N.Nodup
  pre : N.take P.length = P
  par : ∀ x ∈ P, sc.names.lookup x = some .local ∨ sc.names.lookup x = some .cell
  nofree : ∀ y ∈ sc.names, y.2 ≠ .free
theorem bindL_out {kindOf : Str → Option NameKind} {x : Str} : ∀ {binds : List (Str × Value)} {m : Str → Option Value}, (∀ v, (x, v) ∉ binds) → bindL kindOf binds m x = m x
  | [], _, _ => rfl
  | (n, v) :: r, m, h => by
    unfold bindL
    rw [bindL_out fun w hw => h w (List.mem_cons_of_mem _ hw)]
    split
    · have : x ≠ n := by rintro rfl; exact h v List.mem_cons_self
      simp [this]
    · rfl
theorem bindC_out {kindOf : Str → Option NameKind} {x : Str} : ∀ {binds : List (Str × Value)} {m : Str → Option Value}, (∀ v, (x, v) ∉ binds) → bindC kindOf binds m x = m x
  | [], _, _ => rfl
  | (n, v) :: r, m, h => by
    unfold bindC
    rw [bindC_out fun w hw => h w (List.mem_cons_of_mem _ hw)]
    split
    · rfl
    · have : x ≠ n := by rintro rfl; exact h v List.mem_cons_self
      simp [this]
theorem bindL_get {kindOf : Str → Option NameKind} {x : Str} {v : Value} : ∀ {P : List Str} {vs : List Value} {i : Nat} {m : Str → Option Value}, P.Nodup → P[i]? = some x → vs[i]? = some v → kindOf x = some .local →
    bindL kindOf (P.zip vs) m x = some v
  | [], _, _, _, _, h, _, _ => by simp at h
  | _ :: _, [], _, _, _, _, h, _ => by simp at h
  | p :: P, w :: vs, 0, m, nd, h1, h2, hk => by
    simp at h1 h2; subst h1; subst h2
    show bindL kindOf ((p, w) :: P.zip vs) m p = _
    unfold bindL
    rw [bindL_out fun v hv => (List.nodup_cons.mp nd).1 (List.of_mem_zip hv).1, if_pos hk]
    simp
  | p :: P, w :: vs, i + 1, m, nd, h1, h2, hk => by
    show bindL kindOf ((p, w) :: P.zip vs) m x = _
    unfold bindL
    exact bindL_get (i := i) (List.nodup_cons.mp nd).2 (by simpa using h1) (by simpa using h2) hk
theorem bindC_get {kindOf : Str → Option NameKind} {x : Str} {v : Value} : ∀ {P : List Str} {vs : List Value} {i : Nat} {m : Str → Option Value}, P.Nodup → P[i]? = some x → vs[i]? = some v → kindOf x ≠ some .local →
    bindC kindOf (P.zip vs) m x = some v
  | [], _, _, _, _, h, _, _ => by simp at h
  | _ :: _, [], _, _, _, _, h, _ => by simp at h
  | p :: P, w :: vs, 0, m, nd, h1, h2, hk => by
    simp at h1 h2; subst h1; subst h2
    show bindC kindOf ((p, w) :: P.zip vs) m p = _
    unfold bindC
    rw [bindC_out fun v hv => (List.nodup_cons.mp nd).1 (List.of_mem_zip hv).1, if_neg hk]
    simp
  | p :: P, w :: vs, i + 1, m, nd, h1, h2, hk => by
    show bindC kindOf ((p, w) :: P.zip vs) m x = _
    unfold bindC
    exact bindC_get (i := i) (List.nodup_cons.mp nd).2 (by simpa using h1) (by simpa using h2) hk
def start (N : List Str) (vs : List V) : St := vs.map some ++ List.replicate (N.length - vs.length) none
def cxOf (CX : CXT) (P : Program) (w : World) (K : PySem.W.Frag) (mg : Str → Option Value) (base : Heap) (N : List Str) (qual : Str) (scope : Scope) (f : Addr) (cd : Value) (A : Around) (outer : List Env) (s : Shared) (H : Hp) (E : XK) : Cx where
  prog := P
  w := w
  K := K
  mg := mg
  base := base
  A := A.deeper (envOfC qual scope s.heap.objs.size f cd)
  N := N
  s₀ := s
  H₀ := H
  env := envOfC qual scope s.heap.objs.size f cd
  outer := outer
  stack := envOfC qual scope s.heap.objs.size f cd :: outer
  ex := []
  calm := true
  fn := fun _ => true
  pn := []
  xe := fun e s' => wpAny (model P w) (A.deeper (envOfC qual scope s.heap.objs.size f cd)) (leaving (envOfC qual scope s.heap.objs.size f cd) e) (fun _ s'' => CX outer H s E e s'') (fun e' s'' => CX outer H s E e' s'') s'
theorem cell_has {sc : Scope} {n : Nat} {x : Str} (h : sc.names.lookup x = some .cell) : ∃ c, (cellsFrom n sc.names []).lookup x = some c := by
  have q := PySem.W.cellsFrom_some sc.names n [] (.inl h)
  exact Option.isSome_iff_exists.mp q
theorem inv_start {CX : CXT} {P : Program} {w : World} {K : PySem.W.Frag} {mg : Str → Option Value} {base : Heap} {N ps : List Str} {qual : Str} {scope : Scope} {f : Addr} {cd : Value} {A : Around} {outer : List Env} {s s1 : Shared} {H : Hp} {E : XK} {us : List Value} {vs : List V}
    (S : FnScope N ps scope) (hd : A.handled = none) (e0 : Env0 P w K mg base A outer s H) (hl : vs.length = ps.length) (r : Vals vs us)
    (x : InCallC s s.heap.objs.size (bindL (envOfC qual scope s.heap.objs.size f cd).kindOf (ps.zip us) fun _ => none) (cellsFrom (s.heap.objs.size + 1) scope.names []) (bindC (envOfC qual scope s.heap.objs.size f cd).kindOf (ps.zip us) fun _ => none) s1) :
    Inv (cxOf CX P w K mg base N qual scope f cd A outer s H E) [] (start N vs) H s1 := by
  have hpl : ps.length ≤ N.length := by have := congrArg List.length S.pre; rw [List.length_take] at this; omega
  obtain ⟨h1, tk, rfl, hk⟩ := x.done
  have noA : ∀ b : Addr, b ∉ (cxOf CX P w K mg base N qual scope f cd A outer s H E).ex := fun b z => absurd (show b ∈ ([] : List Addr) from z) (by simp)
  refine ⟨⟨e0.mod, S.kind, rfl, rfl, Nat.le_refl _, fun y z c h1 h2 => ?_, fun y hy => ?_, fun y c _ h => ?_, fun _ => hd, Around.frames_deeper e0.frames, .inr ⟨rfl, rfl⟩, fun b z => absurd z (noA b), e0.bs, e0.bsz, fun b _ _ => noA b, fun b z => absurd z (noA b), e0.funs, e0.frf⟩,
    rfl, e0.bare, Un.kept hk, ⟨_, x.toInCall.ns, fun i y v h1 h2 h3 => ?_⟩, fun y c h => ⟨_, x.cell y c h⟩, e0.hok.fresh (Nat.le_refl _), fun y c h => ?_, fun p hp => absurd (show p ∈ ([] : List (Addr × Obj)) from hp) (by simp), e0.hok.kept hk, ?_⟩
  · exact name_of_addr x.apart (PySem.mem_of_lookup h1) (PySem.mem_of_lookup h2)
  · have hy : scope.names.lookup y = some .cell ∨ scope.names.lookup y = some .free := hy
    rcases hy with hy | hy
    · exact cell_has hy
    · exact absurd rfl (S.nofree _ (PySem.mem_of_lookup hy))
  · exact Nat.le_of_lt (x.above y c (PySem.mem_of_lookup h))
  · have hi : i < vs.length := by
      unfold start at h2
      by_cases hi : i < vs.length
      · exact hi
      · rw [List.getElem?_append_right (by simpa using hi)] at h2
        rw [List.getElem?_replicate] at h2
        split at h2 <;> cases h2
    have ha : vs[i]? = some v := by
      unfold start at h2
      rw [List.getElem?_append_left (by simpa using hi), List.getElem?_map] at h2
      cases e : vs[i]? with
      | none => rw [e] at h2; cases h2
      | some a => rw [e] at h2; cases h2; rfl
    obtain ⟨u, hu, rv⟩ := r.get ha
    have hp : ps[i]? = some y := by
      rw [← S.pre, List.getElem?_take_of_lt (by omega)]; exact h1
    have ndP : ps.Nodup := by rw [← S.pre]; exact S.nd.sublist (List.take_sublist _ _)
    refine ⟨u, rv, ?_⟩
    rcases S.par y (List.mem_of_getElem? hp) with k | k
    · exact .inl ⟨k, bindL_get ndP hp hu k⟩
    · obtain ⟨c, e⟩ := cell_has (n := s.heap.objs.size + 1) k
      refine .inr ⟨.inl k, c, e, ?_⟩
      have q := x.cell y c e
      rw [bindC_get ndP hp hu (by show scope.names.lookup y ≠ _; rw [k]; decide)] at q
      exact q
  · exact e0.hok.fresh (Nat.le_of_lt (x.above y c (PySem.mem_of_lookup h)))
  · unfold start
    show _ = N.length
    rw [List.length_append, List.length_map, List.length_replicate]
    omega
theorem fn_of {CX : CXT} {P : Program} {w : World} {K : PySem.W.Frag} {mg : Str → Option Value} {base : Heap} {k : Nat} {f : Addr} {name qual : Str} {params : Arguments} {body : List Stmt} {scope : Scope} {dV kV doc pm cdv ct oc : Value} {an od : Option Addr}
    {osl : Array (Option Value)} {N ps : List Str} {sp : Sp} (lk : K.lookup f = some ⟨oc, od, .func (PySem.W.fnOf name qual params body scope dV kV doc pm an cdv ct), osl⟩) (hcd : PySem.W.codeIn K cdv qual = true) (S : FnScope N ps scope)
    (len : ∀ vs H Q E, sp vs H Q E → vs.length = ps.length)
    (hbody : ∀ (A : Around) (outer : List Env) (s : Shared) (H : Hp) (vs : List V) (Q : VK) (E : XK), Room k (A.deeper (envOfC qual scope s.heap.objs.size f cdv)) → sp vs H Q E →
      ∃ t, PSs (cxOf CX P w K mg base N qual scope f cdv A outer s H E) body t ∧ t { nx := fun _ H' => Q .non H', rt := Q } (start N vs) H) :
    FnOk P w K mg base CX (k + 1) f (PySem.W.fnOf name qual params body scope dV kV doc pm an cdv ct) ps sp := by
  refine ⟨len, fun A outer s H args us vs Q E hr e0 hb r hsp => ?_⟩
  have hl := len _ _ _ _ hsp
  have KX : K.In s.heap := e0.mod.kin.keeps fun b o e => (e0.bs b o e).1
  have lim : s.heap.NoLimit := e0.mod.nolimit.keeps fun b o e => (e0.bs b o e).1
  have hkind : ∀ y ∈ ps.zip us, scope.names.lookup y.1 = some .local ∨ (scope.names.lookup y.1 = some .cell ∧ ((cellsFrom (s.heap.objs.size + 1) scope.names []).lookup y.1).isSome = true) := fun ⟨n, v⟩ hy => by
    rcases S.par n (List.of_mem_zip hy).1 with q | q
    · exact .inl q
    · exact .inr ⟨q, PySem.W.cellsFrom_some _ _ _ (.inl q)⟩
  refine codeAny_call_function hr.depth (KX _ _ lk) rfl S.co S.gen rfl (PySem.W.codeRec_of KX hcd) (hb _ _ _ _ ?_)
  refine wpAny_newFunctionEnv_cells S.kind hkind fun env he s1 x => ?_
  subst he
  refine ⟨lim.keeps x.toInCall.keep, codeAny_func ?_⟩
  obtain ⟨t, ht, hq⟩ := hbody A outer s H vs Q E (hr.deeper _) hsp
  have I : Inv (cxOf CX P w K mg base N qual scope f cdv A outer s H E) [] (start N vs) H s1 := inv_start S hr.hd e0 hl r x
  refine wpAny_mono (ht [] s1 (start N vs) H _ I hq) (fun fl s' hs => ?_) fun e s' hs => hs
  have fin : ∀ {σ' : St} {H' : Hp} {v : V} {u : Value}, Inv (cxOf CX P w K mg base N qual scope f cdv A outer s H E) [] σ' H' s' → RelV v u → Q v H' → CE outer P w H s Q u s' :=
    fun {σ' H' v u} J rv q => ⟨v, H', J.os, J.bare, J.base, J.hok, rv, q⟩
  cases fl with
  | ret u =>
    obtain ⟨v, σ', H', J, rv, q⟩ := hs
    exact fin J rv q
  | next =>
    obtain ⟨σ', H', J, q⟩ := hs
    exact fin (v := V.non) (u := Value.none) J rfl q
  | brk =>
    obtain ⟨_, _, _, q⟩ := hs
    exact False.elim q
  | cont =>
    obtain ⟨_, _, _, q⟩ := hs
    exact False.elim q
end L2
namespace L2
open PySem PySem.Spec PyProof.Rows
section
variable {X : Cx} {x : Str} {p pos : Pos} {e : Expr} {es : List Expr} {t : TA} {id T : String} {r : List V → Hp → VK → Prop}
def tCB (r : List V → Hp → VK → Prop) (t : TA) : TE := fun σ H Q => t σ H fun vs H1 => r vs H1 Q
theorem pe_callB (hc : CallR X (.builtin id) r) (hg : Gl X x) (hm : X.mg x = none) (hv : bootBuiltins x = some (.builtin id)) (ha : PA X (e :: es) t) (hn : x ≠ "__name__" := by decide) (hdb : (x == ("__debug__" : Str)) = false := by decide)
    (he : starEach (e :: es) X.env = (false, eval e X.env) :: starEach es X.env := by rfl) (hpl : (backTo pos (starEach es X.env)).any (·.1) = false := by rfl) : PE X (.Call (.Name x p) (e :: es) [] pos) (tCB r t) := by
  intro pins s σ H Q I h
  refine wpAny_Call_Name_kw (ld_blt I hg hm hv ?_ hn hdb)
  exact PyProof.Rows.callWith_builtin1 (thn (ha pos pins s σ H _ I h) fun us s1 ⟨vs, H1, I1, r1, q1⟩ => hc pins s1 σ H1 vs us Q I1 r1 q1) he hpl
theorem pe_callTy (hc : CallR X (.type T) r) (hg : Gl X x) (hm : X.mg x = none) (hv : bootBuiltins x = some (.type T)) (ha : PA X (e :: es) t) (hn : x ≠ "__name__" := by decide) (hdb : (x == ("__debug__" : Str)) = false := by decide)
    (he : starEach (e :: es) X.env = (false, eval e X.env) :: starEach es X.env := by rfl) (hpl : (backTo pos (starEach es X.env)).any (·.1) = false := by rfl) : PE X (.Call (.Name x p) (e :: es) [] pos) (tCB r t) := by
  intro pins s σ H Q I h
  refine wpAny_Call_Name_kw (ld_blt I hg hm hv ?_ hn hdb)
  exact PyProof.Rows.callWith_type1 (thn (ha pos pins s σ H _ I h) fun us s1 ⟨vs, H1, I1, r1, q1⟩ => hc pins s1 σ H1 vs us Q I1 r1 q1) he hpl
end
end L2
namespace HT
open PySem PyProof.Rows
section
open PySem.SeqAt
open PySem.AutoSeq1 (wpAny_loadPart')
open PySem.MeetsSeq PySem.MeetsSeq2 PySem.MeetsSeq3
end
section
variable {prog : Program} {w : World} {A : Around} {E : Value → Shared → Prop} {s : Shared}
theorem cat_tup {t b : Addr} {vs ws : List Value} {Q : Value → Shared → Prop} (ht : IsTup s.heap t vs.toArray) (hb : IsTup s.heap b ws.toArray) (hv : vs ≠ [])
    (h1 : ws = [] → Q (.ref t) s) (h2 : ws ≠ [] → Q (.ref s.heap.objs.size) { s with heap := s.heap.push { cls := .type "tuple", data := .seq (vs ++ ws).toArray } })
    (hsz : vs.length + ws.length ≤ sizeLine) : wpAny (model prog w) A (binaryOp .Add (.ref t) (.ref b)) Q E s := by
  obtain ⟨⟨cls, dd, data, sl⟩, ho, hc, n, hd⟩ := id ht
  obtain ⟨⟨cls2, dd2, data2, sl2⟩, ho2, hc2, n2, hd2⟩ := id hb
  simp only at hc hd hc2 hd2
  subst hc hd hc2 hd2
  have e : vs.toArray ++ ws.toArray = (vs ++ ws).toArray := by simp
  by_cases hw : ws = []
  · exact concat_meets ⟨_, ho, rfl⟩ ⟨_, ho2, rfl⟩ noFill_tuple_add seq_tuple_add PySem.F.slot_tuple_add PySem.F.entry_tuple_add (PySem.F.args_tuple_add_2 _ _)
      (tuple_addW1 t b vs.toArray ws.toArray n n2 dd dd2 sl sl2 (by simpa using hv) (by simp [hw])) ⟨ho, ho2, h1 hw⟩
  · refine concat_meets ⟨_, ho, rfl⟩ ⟨_, ho2, rfl⟩ noFill_tuple_add seq_tuple_add PySem.F.slot_tuple_add PySem.F.entry_tuple_add (PySem.F.args_tuple_add_2 _ _)
      (tuple_addW2 t b vs.toArray ws.toArray n n2 dd dd2 sl sl2 (by simpa using hv) (by simpa using hw) (by rw [List.size_toArray, List.size_toArray]; exact hsz)) ⟨ho, ho2, ?_⟩
    rw [e]
    exact h2 hw
def sIx (n d : Nat) : Option Int → Nat
  | none => d
  | some v => if v < 0 then (v + (n : Int)).toNat else min v.toNat n
theorem sIx_none (n d : Nat) : sIx n d none = d := rfl
theorem sIx_nat (n d k : Nat) : sIx n d (some (k : Int)) = min k n := by
  show (if (k : Int) < 0 then ((k : Int) + (n : Int)).toNat else min (k : Int).toNat n) = min k n
  rw [if_neg (by omega), Int.toNat_natCast]
theorem sIx_le (n d : Nat) (hd : d ≤ n) (o : Option Int) : sIx n d o ≤ n := by
  cases o with
  | none => exact hd
  | some v =>
    show (if v < 0 then (v + (n : Int)).toNat else min v.toNat n) ≤ n
    by_cases hv : v < 0
    · rw [if_pos hv]; omega
    · rw [if_neg hv]; exact Nat.min_le_right _ _
theorem clip_eq (v : Int) (n d : Nat) : (if v < 0 then max (v + (n : Int)) 0 else min v (n : Int)) = ((sIx n d (some v) : Nat) : Int) := by
  show (if v < 0 then max (v + (n : Int)) 0 else min v (n : Int)) = (((if v < 0 then (v + (n : Int)).toNat else min v.toNat n) : Nat) : Int)
  by_cases hv : v < 0
  · simp only [if_pos hv]; omega
  · simp only [if_neg hv]; omega
theorem adjust_gen (lo hi : Option Int) (n : Nat) : Builtin.Slice.sliceAdjust lo hi 1 (n : Int) = (((sIx n 0 lo : Nat) : Int), ((sIx n n hi : Nat) : Int)) := by
  have h1 : ¬ ((1 : Int) < 0) := by omega
  unfold Builtin.Slice.sliceAdjust
  simp only [h1, if_false]
  refine Prod.ext ?_ ?_
  · cases lo with
    | none => rfl
    | some v => exact clip_eq v n 0
  · cases hi with
    | none => rfl
    | some v => exact clip_eq v n n
theorem places_gen (i j : Nat) : Builtin.Slice.slicePlaces (i : Int) (j : Int) 1 = j - i := by
  unfold Builtin.Slice.slicePlaces
  have h1 : (1 : Int) > 0 := by omega
  simp only [h1, if_true, Int.ediv_one]
  split <;> omega
theorem slicePart_ {v : Value} {o : Option Int} {Q : Option Int → Shared → Prop} (p : IsPart v o) (h : Q o s) : wpAny (model prog w) A (Builtin.Slice.slicePartIndex v) Q E s := by
  cases p with
  | none => exact slicePart_none h
  | int i t => exact slicePart_int h
theorem sliceApplied_gen {sl : Addr} {vl vu : Value} {lo hi : Option Int} {n : Nat} {Q : Int × Int × Nat → Shared → Prop} (hs : s.heap.IsSliceOf sl vl vu .none) (pl : IsPart vl lo) (pu : IsPart vu hi)
    (h : Q (((sIx n 0 lo : Nat) : Int), 1, sIx n n hi - sIx n 0 lo) s) : wpAny (model prog w) A (Builtin.Slice.sliceApplied (.ref sl) (pure (n : Int))) Q E s := by
  obtain ⟨os, hos, hcs, hds⟩ := id hs
  unfold Builtin.Slice.sliceApplied Builtin.Slice.sliceFields
  refine wpAny_bind (wpAny_bind (wpAny_field hos hds (x := vl) rfl (wpAny_bind (wpAny_field hos hds (x := vu) rfl (wpAny_bind (wpAny_field hos hds (x := .none) rfl (wpAny_pure ?_)))))))
  refine wpAny_bind (slicePart_none ?_)
  show wpAny _ _ (if ((1 : Int) == 0) = true then _ else _) _ _ s
  rw [if_neg (by decide)]
  refine wpAny_bind (slicePart_ pl (wpAny_bind (slicePart_ pu (wpAny_bind (wpAny_pure ?_)))))
  show wpAny _ _ (match Builtin.Slice.sliceAdjust lo hi 1 (n : Int) with | (lo, hi) => pure (lo, (1 : Int), Builtin.Slice.slicePlaces lo hi 1)) _ _ s
  rw [adjust_gen lo hi n]
  show wpAny _ _ (pure (((sIx n 0 lo : Nat) : Int), (1 : Int), Builtin.Slice.slicePlaces ((sIx n 0 lo : Nat) : Int) ((sIx n n hi : Nat) : Int) 1)) _ _ s
  rw [places_gen]
  exact wpAny_pure h
theorem pick_gen (xs : Array Value) (i k : Nat) : ((List.range k).filterMap fun (m : Nat) => xs[((i : Int) + (m : Int) * 1).toNat]?).toArray = ((xs.toList.drop i).take k).toArray := by
  have e : (fun (m : Nat) => xs[((i : Int) + (m : Int) * 1).toNat]?) = fun m => xs[i + m]? := by
    funext m
    have : ((i : Int) + (m : Int) * 1).toNat = i + m := by omega
    rw [this]
  rw [e]
  have := pick_run xs i k
  rw [List.filterMap_map] at this
  have e2 : ((fun x => xs[x]?) ∘ fun x => i + x) = fun m => xs[i + m]? := rfl
  rw [e2] at this
  rw [this]
theorem getItem_tuple_cut {t sl : Addr} {items : Array Value} {vl vu : Value} {lo hi : Option Int} {Q : Value → Shared → Prop} (ht : IsTup s.heap t items) (hs : s.heap.IsSliceOf sl vl vu .none) (pl : IsPart vl lo) (pu : IsPart vu hi)
    (hw : ¬ (sIx items.size 0 lo = 0 ∧ sIx items.size items.size hi = items.size))
    (h : Q (.ref s.heap.objs.size) { s with heap := s.heap.push { cls := .type "tuple", data := .seq ((items.toList.drop (sIx items.size 0 lo)).take (sIx items.size items.size hi - sIx items.size 0 lo)).toArray } })
    (hsz : items.size ≤ sizeLine) : wpAny (model prog w) A (getItem (.ref t) (.ref sl)) Q E s := by
  have htake : sizeOk (.seq ((items.toList.drop (sIx items.size 0 lo)).take (sIx items.size items.size hi - sIx items.size 0 lo)).toArray) := by
    show ((items.toList.drop (sIx items.size 0 lo)).take (sIx items.size items.size hi - sIx items.size 0 lo)).toArray.size ≤ sizeLine
    rw [List.size_toArray, List.length_take, List.length_drop, Array.length_toList]
    omega
  have hj : sIx items.size items.size hi ≤ items.size := sIx_le _ _ (Nat.le_refl _) hi
  obtain ⟨os, hos, hcs, hds⟩ := id hs
  have hTs : s.TypeIs (.ref sl) "slice" := ⟨os, hos, hcs⟩
  unfold getItem
  try with_reducible refine wpAny_holding ?_
  first | refine wpAny_bind (wpAny_pure ?_) | skip
  refine wpAny_bind (wpAny_sequenceKey ht.typeIs (by decide) ?_)
  refine wpAny_bind (wpAny_callSpecial?_slot (name := Str.ofString "__getitem__") ht.typeIs PyProof.Rows.slot_tuple_getitem
    (wpAny_call_entry PyProof.Rows.slot_tuple_getitem ht.typeIs entry_tuple_getitem ?_ (args_tuple_getitem _ _)))
  show wpAny _ _ (Builtin.Tuple.tupleItemsOf (.ref t) >>= _) _ _ s
  refine wpAny_bind (tupleItemsOf_ ht ?_)
  refine wpAny_bind (wpAny_typeOf hTs ?_)
  rw [if_pos (by decide)]
  refine wpAny_bind (sliceApplied_gen hs pl pu ?_)
  have hno : ¬ ((((sIx items.size 0 lo : Nat) : Int) == 0 && (1 : Int) == 1 && (sIx items.size items.size hi - sIx items.size 0 lo) == items.size) = true) := by
    intro q
    rw [Bool.and_eq_true, Bool.and_eq_true] at q
    have q1 : ((sIx items.size 0 lo : Nat) : Int) = 0 := eq_of_beq q.1.1
    have q2 : sIx items.size items.size hi - sIx items.size 0 lo = items.size := eq_of_beq q.2
    exact hw ⟨by omega, by omega⟩
  show wpAny _ _ (if (((sIx items.size 0 lo : Nat) : Int) == 0 && (1 : Int) == 1 && (sIx items.size items.size hi - sIx items.size 0 lo) == items.size) = true then _ else _) _ _ s
  rw [if_neg hno, pick_gen]
  first
    | exact wpAny_bind (m := Builtin.Tuple.tupleExact _) (wpAny_newObj_type (wpAny_pure ⟨_, rfl, wpAny_pure h⟩) htake)
    | exact wpAny_bind (m := Builtin.Tuple.tupleExact _) (wpAny_newObj_type (wpAny_bind (wpAny_pure (wpAny_pure ⟨_, rfl, wpAny_pure h⟩))) htake)
    | exact wpAny_bind (wpAny_bind (m := Builtin.Tuple.tupleExact _) (wpAny_newObj_type (wpAny_pure (wpAny_pure ⟨_, rfl, wpAny_pure h⟩)) htake))
    | exact wpAny_bind (wpAny_bind (m := Builtin.Tuple.tupleExact _) (wpAny_newObj_type (wpAny_pure ⟨_, rfl, wpAny_pure h⟩) htake))
end
end HT
namespace L2
open PySem PySem.Spec PyProof.Rows
abbrev TO := St → Hp → (Option Int → Hp → Prop) → Prop
def PO (X : Cx) (e : Option Expr) (t : TO) : Prop :=
  ∀ (pins : List (Addr × Obj)) (s : Shared) (σ : St) (H : Hp) (Q : Option Int → Hp → Prop), Inv X pins σ H s → t σ H Q →
    wpAny (model X.prog X.w) X.A (evalPart e X.env) (fun u s' => ∃ o H', Inv X pins σ H' s' ∧ IsPart u o ∧ Q o H') X.xe s
def tNoPart : TO := fun _ H Q => Q none H
def tPart (t : TE) : TO := fun σ H Q => t σ H fun x H1 => ∃ i, x = .int i ∧ Q (some i) H1
section
variable {X : Cx} {e : Expr} {te : TE} {lo hi : Option Expr} {tl th : TO} {pos p2 : Pos}
theorem po_none : PO X none tNoPart := by
  intro pins s σ H Q I h
  rw [evalPart_none]
  exact wpAny_pure ⟨none, H, I, .none, h⟩
theorem po_some (h : PE X e te) : PO X (some e) (tPart te) := by
  intro pins s σ H Q I hw
  rw [evalPart_some]
  refine thn (h pins s σ H _ I hw) fun u s1 ⟨x, H1, I1, r1, q1⟩ => ?_
  obtain ⟨i, rfl, q⟩ := q1
  obtain ⟨t, rfl⟩ := r1
  exact ⟨some i, H1, I1, .int i t, q⟩
def SlR (X : Cx) (r : V → Option Int → Option Int → Hp → VK → Prop) : Prop :=
  ∀ (pins : List (Addr × Obj)) (s : Shared) (σ : St) (H : Hp) (x : V) (v vl vu : Value) (lo hi : Option Int) (sl : Addr) (Q : VK), Inv X pins σ H s → RelV x v → s.heap.IsSliceOf sl vl vu .none → IsPart vl lo → IsPart vu hi → r x lo hi H Q →
    ∃ T id, typeLookup (.type T) "__getitem__" = pure (some (.builtin id)) ∧ s.TypeIs v T ∧ wpAny (model X.prog X.w) X.A (getItem v (.ref sl)) (EP X pins σ Q) X.xe s
theorem SlR.or {r r' : V → Option Int → Option Int → Hp → VK → Prop} (h : SlR X r) (h' : SlR X r') : SlR X (fun x lo hi H Q => r x lo hi H Q ∨ r' x lo hi H Q) := by
  intro pins s σ H x v vl vu lo hi sl Q I rx hs pl pu q
  rcases q with q | q
  · exact h pins s σ H x v vl vu lo hi sl Q I rx hs pl pu q
  · exact h' pins s σ H x v vl vu lo hi sl Q I rx hs pl pu q
def tSl (r : V → Option Int → Option Int → Hp → VK → Prop) (te : TE) (tl th : TO) : TE := fun σ H Q => te σ H fun x H1 => tl σ H1 fun l H2 => th σ H2 fun u H3 => r x l u H3 Q
theorem pe_slice {r : V → Option Int → Option Int → Hp → VK → Prop} (hr : SlR X r) (he : PE X e te) (hl : PO X lo tl) (hu : PO X hi th) : PE X (.Subscript e (.Slice lo hi none p2) pos) (tSl r te tl th) := by
  intro pins s σ H Q I h
  refine Subscript_ (thn (he pins s σ H _ I h) fun v s1 ⟨x, H1, I1, r1, q1⟩ => ?_)
  refine wpAny_Slice (thn (hl pins s1 σ H1 _ I1 q1) fun vl s2 ⟨l, H2, I2, pl, q2⟩ => thn (hu pins s2 σ H2 _ I2 q2) fun vu s3 ⟨u, H3, I3, pu, q3⟩ => ?_)
  rw [evalPart_none]
  refine wpAny_pure ?_
  have I4 : Inv X pins σ H3 { s3 with heap := s3.heap.push { cls := .type "slice", data := .fields #[vl, vu, .none] } } := I3.kept (t' := s3.toks) fun b ob q => Heap.get?_push_of_some _ q
  obtain ⟨T, id, hT, ht, hg⟩ := hr pins { s3 with heap := s3.heap.push { cls := .type "slice", data := .fields #[vl, vu, .none] } } σ H3 x v vl vu l u s3.heap.objs.size Q I4 r1 (Heap.IsSliceOf.new ..) pl pu q3
  show wpAny (model X.prog X.w) X.A (subscriptTail e (.Slice lo hi none p2) v (.ref s3.heap.objs.size)) (EP X pins σ Q) X.xe { s3 with heap := s3.heap.push { cls := .type "slice", data := .fields #[vl, vu, .none] } }
  exact tail_any (ops := [.ref s3.heap.objs.size, v]) ht hT hg (by with_unfolding_all rfl)
def cutV (xs : List V) (lo hi : Option Int) : List V := (xs.drop (HT.sIx xs.length 0 lo)).take (HT.sIx xs.length xs.length hi - HT.sIx xs.length 0 lo)
theorem cutV_length (xs : List V) (lo hi : Option Int) : (cutV xs lo hi).length ≤ xs.length := by
  unfold cutV
  rw [List.length_take, List.length_drop]
  omega
def rSlT (K : PySem.W.Frag) : V → Option Int → Option Int → Hp → VK → Prop := fun x lo hi H Q => ∃ a xs, x = .ref a ∧ SqT K H a xs ∧
  ¬ (HT.sIx xs.length 0 lo = 0 ∧ HT.sIx xs.length xs.length hi = xs.length) ∧ ∀ p, H p = none → Q (.ref p) (upd H p (.tup (cutV xs lo hi)))
theorem sl_tup : SlR X (rSlT X.K) := by
  intro pins s σ H x v vl vu lo hi sl Q I rx hs pl pu h
  obtain ⟨a, xs, rfl, hx, hw, q⟩ := h
  cases rx
  obtain ⟨its, r, ht, hz⟩ := I.tuple hx
  have hlen : its.toArray.size = xs.length := by rw [List.size_toArray]; exact r.length.symm
  refine ⟨"tuple", _, PyProof.Rows.slot_tuple_getitem.lookup, ht.typeIs, ?_⟩
  refine HT.getItem_tuple_cut ht hs pl pu (by rw [hlen]; exact hw) ?_ (by rw [hlen]; exact hz)
  rw [hlen]
  refine ⟨.ref s.heap.objs.size, _, I.laid (t' := s.toks) (o := .tup (cutV xs lo hi)) (fun b ob q => Heap.get?_push_of_some _ q) (Nat.le_refl _) ?_, rfl, q _ (I.hok.fresh (Nat.le_refl _))⟩
  exact ⟨Nat.le_trans (cutV_length xs lo hi) hz, _, (r.drop (HT.sIx xs.length 0 lo)).take (HT.sIx xs.length xs.length hi - HT.sIx xs.length 0 lo), IsTup.new _ _⟩
def rCatT (K : PySem.W.Frag) : R2 := fun x y H Q => ∃ a b xs ys, x = .ref a ∧ y = .ref b ∧ SqT K H a xs ∧ SqT K H b ys ∧ xs ≠ [] ∧ xs.length + ys.length ≤ sizeLine ∧
  (ys = [] → Q (.ref a) H) ∧ (ys ≠ [] → ∀ p, H p = none → Q (.ref p) (upd H p (.tup (xs ++ ys))))
theorem Vals.nil_iff {xs : List V} {us : List Value} (r : Vals xs us) : us = [] ↔ xs = [] := by
  cases r with
  | nil => simp
  | cons _ _ => simp
theorem op_catT : OpR X (binaryOp .Add) (rCatT X.K) := by
  intro pins s σ H x y v u Q I rx ry h
  obtain ⟨a, b, xs, ys, rfl, rfl, ha, hb, hx, hz, q1, q2⟩ := h
  cases rx
  cases ry
  obtain ⟨its, r1, p1, _⟩ := I.tuple ha
  obtain ⟨its2, r2, p2, _⟩ := I.tuple hb
  refine HT.cat_tup p1 p2 (fun z => hx (r1.nil_iff.mp z)) (fun z => ⟨.ref a, H, I, rfl, q1 (r2.nil_iff.mp z)⟩) (fun z => ?_) (by rw [← r1.length, ← r2.length]; exact hz)
  refine ⟨.ref s.heap.objs.size, _, I.laid (t' := s.toks) (o := .tup (xs ++ ys)) (fun b ob q => Heap.get?_push_of_some _ q) (Nat.le_refl _) ?_, rfl, q2 (fun w => z (r2.nil_iff.mpr w)) _ (I.hok.fresh (Nat.le_refl _))⟩
  exact ⟨by rw [List.length_append]; exact hz, _, r1.append r2, IsTup.new _ _⟩
end
end L2
namespace L2
open PySem PySem.Spec PyProof.Rows
def ixN (n : Nat) (i : Int) : Option Nat := if 0 ≤ i then (if i < n then some i.toNat else none) else if -(n : Int) ≤ i then some (i + n).toNat else none
def atI {α : Type} (xs : List α) (i : Int) : Option α := (ixN xs.length i).bind fun j => xs[j]?
theorem ixN_seq {n : Nat} {i : Int} {j : Nat} (h : ixN n i = some j) : seqIndex? i n = some j ∧ j < n ∧ -(n : Int) ≤ i ∧ i < n := by
  unfold ixN at h
  by_cases h0 : 0 ≤ i
  · rw [if_pos h0] at h
    by_cases h1 : i < n
    · rw [if_pos h1] at h
      have e : i.toNat = j := Option.some.inj h
      exact ⟨by rw [seqIndex_of h0 h1, e], by omega, by omega, h1⟩
    · rw [if_neg h1] at h; cases h
  · rw [if_neg h0] at h
    by_cases h1 : -(n : Int) ≤ i
    · rw [if_pos h1] at h
      have e : (i + n).toNat = j := Option.some.inj h
      exact ⟨by rw [seqIndex_neg (by omega) h1, e], by omega, h1, by omega⟩
    · rw [if_neg h1] at h; cases h
theorem atI_get {α : Type} {xs : List α} {i : Int} {v : α} (h : atI xs i = some v) : ∃ j, seqIndex? i xs.length = some j ∧ xs[j]? = some v ∧ j < xs.length ∧ -(xs.length : Int) ≤ i ∧ i < xs.length := by
  unfold atI at h
  cases e : ixN xs.length i with
  | none => rw [e] at h; cases h
  | some j =>
    rw [e] at h
    obtain ⟨h1, h2, h3, h4⟩ := ixN_seq e
    exact ⟨j, h1, h, h2, h3, h4⟩
theorem atI_nat {α : Type} {xs : List α} {j : Nat} {v : α} (h : xs[j]? = some v) : atI xs (j : Int) = some v := by
  have hj : j < xs.length := (List.getElem?_eq_some_iff.mp h).1
  have e : ixN xs.length (j : Int) = some j := by
    unfold ixN
    rw [if_pos (by omega), if_pos (by omega)]; simp
  unfold atI; rw [e]; exact h
theorem atI_last {α : Type} (xs : List α) (v : α) : atI (xs ++ [v]) (-1) = some v := by
  have hl : (xs ++ [v]).length = xs.length + 1 := by simp
  have e : ixN (xs ++ [v]).length (-1) = some xs.length := by
    unfold ixN
    rw [hl, if_neg (by decide), if_pos (by omega)]
    congr 1
    omega
  unfold atI
  rw [e]
  show (xs ++ [v])[xs.length]? = some v
  simp
def PlainIx (b : Expr) : Prop := ∀ o i, subscripted b false o i = operate [o, i] (getItem o i)
def IxR (X : Cx) (r : R2) : Prop :=
  ∀ (value slice : Expr) (pins : List (Addr × Obj)) (s : Shared) (σ : St) (H : Hp) (x y : V) (v u : Value) (Q : VK), Inv X pins σ H s → RelV x v → RelV y u → r x y H Q →
    subscripted slice false v u = operate [v, u] (getItem v u) → wpAny (model X.prog X.w) X.A (subscriptTail value slice v u) (EP X pins σ Q) X.xe s
def MtR (X : Cx) (id : String) (r : V → List V → Hp → VK → Prop) : Prop :=
  ∀ (pins : List (Addr × Obj)) (s : Shared) (σ : St) (H : Hp) (x : V) (xs : List V) (v : Value) (us : List Value) (Q : VK), Inv X pins σ H s → RelV x v → Vals xs us → r x xs H Q →
    wpAny (model X.prog X.w) X.A (call (.builtin id) (v :: us)) (EP X pins σ Q) X.xe s
section
variable {X : Cx} {a b : Expr} {ta tb : TE} {pos : Pos}
theorem IxR.or {r r' : R2} (h : IxR X r) (h' : IxR X r') : IxR X (fun x y H Q => r x y H Q ∨ r' x y H Q) := by
  intro value slice pins s σ H x y v u Q I rx ry q hs
  rcases q with q | q
  · exact h value slice pins s σ H x y v u Q I rx ry q hs
  · exact h' value slice pins s σ H x y v u Q I rx ry q hs
theorem MtR.or {id : String} {r r' : V → List V → Hp → VK → Prop} (h : MtR X id r) (h' : MtR X id r') : MtR X id (fun x xs H Q => r x xs H Q ∨ r' x xs H Q) := by
  intro pins s σ H x xs v us Q I rx rs q
  rcases q with q | q
  · exact h pins s σ H x xs v us Q I rx rs q
  · exact h' pins s σ H x xs v us Q I rx rs q
theorem pe_ix {r : R2} (hr : IxR X r) (ha : PE X a ta) (hb : PE X b tb) (hs : PlainIx b) : PE X (.Subscript a b pos) (tOp r ta tb) := by
  intro pins s σ H Q I h
  exact Subscript_ (binT ha hb I h fun v u s2 x y H2 I2 rx ry q => hr a b pins s2 σ H2 x y v u Q I2 rx ry q (hs _ _))
def rIxL (K : PySem.W.Frag) : R2 := fun x y H Q => ∃ p xs i v, x = .ref p ∧ y = .int i ∧ SqL K H p xs ∧ atI xs i = some v ∧ Q v H
def rIxT (K : PySem.W.Frag) : R2 := fun x y H Q => ∃ p xs i v, x = .ref p ∧ y = .int i ∧ SqT K H p xs ∧ atI xs i = some v ∧ Q v H
def rIxS : R2 := fun x y H Q => ∃ z i c, x = .str z ∧ y = .int i ∧ z.length ≤ sizeLine ∧ atI z.cps.toList i = some c ∧ Q (.str ⟨#[c]⟩) H
theorem ix_list : IxR X (rIxL X.K) := by
  intro value slice pins s σ H x y v u Q I rx ry h hs
  obtain ⟨p, xs, i, z, rfl, rfl, hq, he, q⟩ := h
  cases rx
  obtain ⟨t, rfl⟩ := ry
  obtain ⟨its, r, pl, hz⟩ := I.list hq
  obtain ⟨j, h1, h2, h3, h4, h5⟩ := atI_get he
  obtain ⟨w, ew, rw'⟩ := r.get h2
  have hl := r.length
  have hn := line63
  have fin : EP X pins σ Q w s := ⟨z, H, I, rw', q⟩
  by_cases h0 : 0 ≤ i
  · have hj : i.toNat = j := by
      rw [seqIndex_of h0 h5] at h1
      exact Option.some.inj h1
    exact item_listR pl.isList h0 (by omega) (by rw [hj]; simpa using ew) fin hs
  · have hj : (i + (its.toArray.size : Int)).toNat = j := by
      rw [seqIndex_neg (by omega) h4] at h1
      rw [List.size_toArray, ← hl]
      exact Option.some.inj h1
    exact subscriptTail_builtinR (x := w) pl.isList.typeIs slot_list_getitem.lookup
      (wpAny_getItem_list_neg (Q := fun r s' => r = w ∧ EP X pins σ Q r s') pl.isList (by omega) (by rw [List.size_toArray] <;> omega) (by omega) (by rw [hj]; simpa using ew) ⟨rfl, fin⟩) hs
theorem ix_tup : IxR X (rIxT X.K) := by
  intro value slice pins s σ H x y v u Q I rx ry h hs
  obtain ⟨p, xs, i, z, rfl, rfl, hq, he, q⟩ := h
  cases rx
  obtain ⟨t, rfl⟩ := ry
  obtain ⟨its, r, pl, hz⟩ := I.tuple hq
  obtain ⟨j, h1, h2, h3, h4, h5⟩ := atI_get he
  obtain ⟨w, ew, rw'⟩ := r.get h2
  have hl := r.length
  have hn := line63
  have fin : EP X pins σ Q w s := ⟨z, H, I, rw', q⟩
  exact subscriptTail_builtinR (x := w) pl.typeIs slot_tuple_getitem.lookup
    (getItem_tuple (j := j) (Q := fun r s' => r = w ∧ EP X pins σ Q r s') pl (by omega) (by omega) (by rw [List.size_toArray, ← hl]; exact h1) (by simpa using ew) ⟨rfl, fin⟩) hs
theorem ix_str : IxR X rIxS := by
  intro value slice pins s σ H x y v u Q I rx ry h hs
  obtain ⟨z, i, c, rfl, rfl, hz, he, q⟩ := h
  obtain ⟨t, rfl⟩ := rx
  obtain ⟨t', rfl⟩ := ry
  obtain ⟨j, h1, h2, h3, h4, h5⟩ := atI_get he
  have hl : z.cps.toList.length = z.length := by simp [Str.length]
  rw [hl] at h1 h4 h5
  have hn := line63
  exact tail_any (typeIs_str s z t) slot_str_getitem.lookup (getItem_str (c := c) (by
    have e1 : decide (i < -(2 ^ 63 : Int)) = false := decide_eq_false (by omega)
    have e2 : decide (i ≥ 2 ^ 63) = false := decide_eq_false (by omega)
    rw [e1, e2, Bool.or_false]) (by rw [h1]; simpa using h2) ⟨.str ⟨#[c]⟩, H, I.tok _, ⟨_, rfl⟩, q⟩) hs
def rIx (K : PySem.W.Frag) : R2 := fun x y H Q => rIxL K x y H Q ∨ rIxT K x y H Q ∨ rIxS x y H Q
theorem ix_seq : IxR X (rIx X.K) := ix_list.or (ix_tup.or ix_str)
theorem mapSeq_set (its : List Value) (n j : Nat) (u : Value) : Obj.mapSeq (·.setIfInBounds j u) { cls := .type "list", data := .seq its.toArray n } = { cls := .type "list", data := .seq (its.set j u).toArray n } := by
  simp [Obj.mapSeq]
theorem Inv.lst {pins : List (Addr × Obj)} {σ : St} {H : Hp} {s : Shared} {p : Addr} {xs : List V} (I : Inv X pins σ H s) (h : H p = some (.lst xs)) :
    ∃ (its : List Value) (n : Nat), Vals xs its ∧ s.heap.get? p = some { cls := .type "list", data := .seq its.toArray n } ∧ xs.length ≤ sizeLine := by
  obtain ⟨z, its, n, r, e⟩ := I.hok p _ h
  exact ⟨its, n, r, e, z⟩
theorem Inv.lstUpd {pins : List (Addr × Obj)} {σ : St} {H : Hp} {s : Shared} {p : Addr} {xs ys : List V} {its its' : List Value} {n n' : Nat} {f : Obj → Obj} (I : Inv X pins σ H s) (h : H p = some (.lst xs))
    (ho : s.heap.get? p = some { cls := .type "list", data := .seq its.toArray n }) (hf : f { cls := .type "list", data := .seq its.toArray n } = { cls := .type "list", data := .seq its'.toArray n' }) (r : Vals ys its') (hz : ys.length ≤ sizeLine) (t : Nat) :
    Inv X pins σ (upd H p (.lst ys)) { s with heap := s.heap.update p f, toks := t } := by
  have e : (s.heap.update p f).get? p = some { cls := .type "list", data := .seq its'.toArray n' } := by
    rw [Heap.get?_update_self f ho (by rw [hf] <;> rfl), hf]
  refine I.write (x := p) (e := p) (by rw [h]; trivial) (.inl rfl) (fun b u hb q => (Heap.get?_update_other _ _ (Ne.symm hb)).trans q) ⟨_, e⟩ ?_
  exact ⟨hz, its', n', r, e⟩
def rSetL : V → V → V → Hp → (Hp → Prop) → Prop := fun o i v H Q => ∃ p xs k j, o = .ref p ∧ i = .int k ∧ H p = some (.lst xs) ∧ ixN xs.length k = some j ∧ Q (upd H p (.lst (xs.set j v)))
theorem set_list : PSet X rSetL := by
  intro pins s σ H o i v ov iv u Q I ro ri rv h
  obtain ⟨p, xs, k, j, rfl, rfl, hp, hj, q⟩ := h
  cases ro
  obtain ⟨t, rfl⟩ := ri
  obtain ⟨its, n, r, ho, hz⟩ := I.lst hp
  obtain ⟨h1, h2, h3, h4⟩ := ixN_seq hj
  have hl := r.length
  have hn := line63
  have I' : Inv X pins σ (upd H p (.lst (xs.set j v))) { s with heap := s.heap.update p (Obj.mapSeq (·.setIfInBounds j u)) } :=
    I.lstUpd hp ho (mapSeq_set its n j u) (r.set rv j) (by rw [List.length_set]; exact hz) s.toks
  by_cases h0 : 0 ≤ k
  · have hk : k.toNat = j := by
      rw [seqIndex_of h0 h4] at h1
      exact Option.some.inj h1
    exact PySem.W.ki_setAt ho h0 (by omega) (by rw [List.size_toArray, ← hl]; exact h4) (by rw [hk]; exact ⟨_, I', q⟩)
  · have hk : (k + (its.toArray.size : Int)).toNat = j := by
      rw [seqIndex_neg (by omega) h3] at h1
      rw [List.size_toArray, ← hl]
      exact Option.some.inj h1
    exact PySem.W.ki_setBack ho (by omega) (by rw [List.size_toArray, ← hl]; exact h3) (by omega) (by rw [hk]; exact ⟨_, I', q⟩)
theorem slice_bounds (lo hi : Option Int) (n : Nat) : (sliceBounds lo hi none n).1 = ((HT.sIx n 0 lo : Nat) : Int) ∧ (sliceBounds lo hi none n).2.1 = ((HT.sIx n n hi : Nat) : Int) ∧ (sliceBounds lo hi none n).2.2 = 1 := by
  refine ⟨?_, ?_, rfl⟩
  · cases lo with
    | none => simp [sliceBounds, HT.sIx]
    | some i =>
      simp only [sliceBounds, HT.sIx, Option.getD_none, show (1 : Int) > 0 by decide, if_true]
      by_cases h : i < 0
      · simp only [h, if_true] <;> omega
      · simp only [h, if_false] <;> omega
  · cases hi with
    | none => simp [sliceBounds, HT.sIx]
    | some i =>
      simp only [sliceBounds, HT.sIx, Option.getD_none, show (1 : Int) > 0 by decide, if_true]
      by_cases h : i < 0
      · simp only [h, if_true] <;> omega
      · simp only [h, if_false] <;> omega
theorem slicePick_cut (its : List Value) (lo hi : Option Int) : slicePick its.toArray lo hi none = ((its.drop (HT.sIx its.length 0 lo)).take (HT.sIx its.length its.length hi - HT.sIx its.length 0 lo)).toArray := by
  obtain ⟨h1, h2, h3⟩ := slice_bounds lo hi its.toArray.size
  unfold slicePick
  rw [h1, h2, h3]
  simp only [sliceRange_one, pick_run, List.size_toArray] <;> rfl
def rSlL (K : PySem.W.Frag) : V → Option Int → Option Int → Hp → VK → Prop := fun x lo hi H Q => ∃ a xs, x = .ref a ∧ SqL K H a xs ∧ ∀ p, H p = none → Q (.ref p) (upd H p (.lst (cutV xs lo hi)))
theorem sl_list : SlR X (rSlL X.K) := by
  intro pins s σ H x v vl vu lo hi sl Q I rx hs pl pu h
  obtain ⟨a, xs, rfl, hx, q⟩ := h
  cases rx
  obtain ⟨its, r, ht, hz⟩ := I.list hx
  have hlen := r.length
  refine ⟨"list", _, slot_list_getitem.lookup, ht.isList.typeIs, ?_⟩
  refine wpAny_getItem_list_slice ht.isList hs pl pu .none (by simp) ?_ (by rw [List.size_toArray] <;> omega)
  rw [slicePick_cut, ← hlen]
  refine ⟨.ref s.heap.objs.size, _, I.laid (t' := s.toks) (o := .lst (cutV xs lo hi)) (fun b ob q => Heap.get?_push_of_some _ q) (Nat.le_refl _) ?_, rfl, q _ (I.hok.fresh (Nat.le_refl _))⟩
  exact ⟨Nat.le_trans (cutV_length xs lo hi) hz, _, 0, (r.drop (HT.sIx xs.length 0 lo)).take (HT.sIx xs.length xs.length hi - HT.sIx xs.length 0 lo), Heap.get?_push_size _ rfl⟩
def flatV : V → Bool
  | .non => true
  | .bl _ => true
  | .int _ => true
  | .str _ => true
  | _ => false
def eqV : V → V → Bool
  | .non, .non => true
  | .bl a, .bl b => a == b
  | .bl a, .int b => (if a then 1 else 0) == b
  | .int a, .bl b => a == (if b then 1 else 0)
  | .int a, .int b => a == b
  | .str a, .str b => a == b
  | _, _ => false
theorem eqAt_V {A : Around} {s : Shared} {y x : V} {u v : Value} (ry : RelV y u) (rx : RelV x v) (fy : flatV y = true) (fx : flatV x = true) : SeqAt.EqAt A s u v (eqV y x) := by
  cases y with
  | non =>
    cases ry
    cases x with
    | non => cases rx; exact SeqAt.EqAt.same _
    | bl b => cases rx; exact SeqAt.EqAt.none_bool b
    | int b => obtain ⟨t, rfl⟩ := rx; exact SeqAt.EqAt.none_int b t
    | str b => obtain ⟨t, rfl⟩ := rx; exact SeqAt.EqAt.none_str b t
    | _ => exact absurd (show false = true from fx) Bool.false_ne_true
  | bl a =>
    cases ry
    cases x with
    | non => cases rx; exact SeqAt.EqAt.bool_none a
    | bl b => cases rx; exact SeqAt.EqAt.bool_bool a b
    | int b => obtain ⟨t, rfl⟩ := rx; exact SeqAt.EqAt.bool_int a b t
    | str b => obtain ⟨t, rfl⟩ := rx; exact SeqAt.EqAt.bool_str a b t
    | _ => exact absurd (show false = true from fx) Bool.false_ne_true
  | int a =>
    obtain ⟨t', rfl⟩ := ry
    cases x with
    | non => cases rx; exact SeqAt.EqAt.int_none a t'
    | bl b => cases rx; exact SeqAt.EqAt.int_bool a t' b
    | int b => obtain ⟨t, rfl⟩ := rx; exact SeqAt.EqAt.int_int a t' b t
    | str b => obtain ⟨t, rfl⟩ := rx; exact SeqAt.EqAt.int_str a t' b t
    | _ => exact absurd (show false = true from fx) Bool.false_ne_true
  | str a =>
    obtain ⟨t', rfl⟩ := ry
    cases x with
    | non => cases rx; exact SeqAt.EqAt.str_none a t'
    | bl b => cases rx; exact SeqAt.EqAt.str_bool a t' b
    | int b => obtain ⟨t, rfl⟩ := rx; exact SeqAt.EqAt.str_int a t' b t
    | str b => obtain ⟨t, rfl⟩ := rx; exact SeqAt.EqAt.str_str a t' b t
    | _ => exact absurd (show false = true from fx) Bool.false_ne_true
  | _ => exact absurd (show false = true from fy) Bool.false_ne_true
theorem call_len_seq : CallR X (.builtin "len") (fun xs H Q => ∃ p ys, xs = [.ref p] ∧ (SqL X.K H p ys ∨ SqT X.K H p ys) ∧ Q (.int ys.length) H) := by
  intro pins s σ H xs us Q I r h
  obtain ⟨p, ys, rfl, hq, q⟩ := h
  obtain ⟨u, rfl, rx⟩ := vals1 r
  cases rx
  have hn := line63
  rcases hq with hq | hq
  · obtain ⟨its, r', pl, hz⟩ := I.list hq
    have hlen := r'.length
    exact Calls.call_len_list pl.isList (by simp only [List.size_toArray] <;> omega) ⟨.int ys.length, H, I.tok _, ⟨s.toks + 1, by rw [List.size_toArray, hlen]⟩, q⟩
  · obtain ⟨its, r', pl, hz⟩ := I.tuple hq
    have hlen := r'.length
    exact len_tuple pl (by simp only [List.size_toArray] <;> omega) ⟨.int ys.length, H, I.tok _, ⟨s.toks + 1, by rw [List.size_toArray, hlen]⟩, q⟩
theorem call_len_str : CallR X (.builtin "len") (fun xs H Q => ∃ z, xs = [.str z] ∧ z.length ≤ sizeLine ∧ Q (.int z.length) H) := by
  intro pins s σ H xs us Q I r h
  obtain ⟨z, rfl, hz, q⟩ := h
  obtain ⟨u, rfl, t, rfl⟩ := vals1 r
  have hn := line63
  exact len_str (by omega) ⟨.int z.length, H, I.tok _, ⟨_, rfl⟩, q⟩
theorem CallR.or {f : Value} {r r' : List V → Hp → VK → Prop} (h : CallR X f r) (h' : CallR X f r') : CallR X f (fun xs H Q => r xs H Q ∨ r' xs H Q) := by
  intro pins s σ H xs us Q I rs q
  rcases q with q | q
  · exact h pins s σ H xs us Q I rs q
  · exact h' pins s σ H xs us Q I rs q
theorem call_list_of : CallR X (.type "list") (fun xs H Q => ∃ p ys, xs = [.ref p] ∧ (SqL X.K H p ys ∨ SqT X.K H p ys) ∧ ∀ l, H l = none → Q (.ref l) (upd H l (.lst ys))) := by
  intro pins s σ H xs us Q I r h
  obtain ⟨p, ys, rfl, hq, q⟩ := h
  obtain ⟨u, rfl, rx⟩ := vals1 r
  cases rx
  have fin : ∀ (its : List Value), Vals ys its → ys.length ≤ sizeLine → ∀ (h' : Heap) (c' : Nat), (∀ b o', s.heap.get? b = some o' → h'.get? b = some o') →
      h'.get? s.heap.objs.size = some { cls := .type "list", dict := none, data := .seq its.toArray c', slots := #[] } → EP X pins σ Q (.ref s.heap.objs.size) { s with heap := h' } := fun its r' hz h' c' kp e =>
    ⟨.ref s.heap.objs.size, _, I.laid (t' := s.toks) kp (Nat.le_refl _) (show ObjOk X.prog X.w _ h' _ (.lst ys) from ⟨hz, its, c', r', e⟩), rfl, q _ (I.hok.fresh (Nat.le_refl _))⟩
  rcases hq with hq | hq
  · obtain ⟨its, r', pl, hz⟩ := I.list hq
    have hlen := r'.length
    obtain ⟨o, ho, hc, n, hd⟩ := pl.isList
    exact call_list_seq p (.inl rfl) ho hc hd (fun h' c' kp e => fin its r' hz h' c' kp e) (by simp only [List.size_toArray] <;> omega)
  · obtain ⟨its, r', pl, hz⟩ := I.tuple hq
    have hlen := r'.length
    obtain ⟨o, ho, hc, n, hd⟩ := pl
    exact call_list_seq p (.inr rfl) ho hc hd (fun h' c' kp e => fin its r' hz h' c' kp e) (by simp only [List.size_toArray] <;> omega)
theorem call_tuple_of : CallR X (.type "tuple") (fun xs H Q => ∃ p ys, xs = [.ref p] ∧ ((SqL X.K H p ys ∧ ∀ l, H l = none → Q (.ref l) (upd H l (.tup ys))) ∨ (SqT X.K H p ys ∧ Q (.ref p) H))) := by
  intro pins s σ H xs us Q I r h
  obtain ⟨p, ys, rfl, h⟩ := h
  obtain ⟨u, rfl, rx⟩ := vals1 r
  cases rx
  rcases h with ⟨hq, q⟩ | ⟨hq, q⟩
  · obtain ⟨its, r', pl, hz⟩ := I.list hq
    have hlen := r'.length
    refine call_tuple_list pl.isList (fun h' kp => ?_) (by simp only [List.size_toArray] <;> omega)
    have I1 : Inv X pins σ H { s with heap := h' } := I.kept (t' := s.toks) kp
    have I2 : Inv X pins σ (upd H h'.objs.size (.tup ys)) { s with heap := h'.push { cls := .type "tuple", data := .seq its.toArray } } :=
      I1.laid (t' := s.toks) (fun b o e => Heap.get?_push_of_some _ e) (Nat.le_refl _) (show ObjOk X.prog X.w _ _ _ (.tup ys) from ⟨hz, its, r', IsTup.new _ _⟩)
    exact ⟨.ref h'.objs.size, _, I2, rfl, q _ (I1.hok.fresh (Nat.le_refl _))⟩
  · obtain ⟨its, r', pl, hz⟩ := I.tuple hq
    exact call_tuple_same pl ⟨.ref p, H, I, rfl, q⟩
def tyV (K : PySem.W.Frag) (T : String) (x : V) (H : Hp) : Prop := match x with
  | .str _ => T = "str"
  | .int _ => T = "int"
  | .ref p => (T = "list" ∧ ∃ xs, SqL K H p xs) ∨ (T = "tuple" ∧ ∃ o, K.lookup p = some o ∧ o.cls = .type "tuple" ∧ o.dict = none) ∨
      (T = "dict" ∧ ((∃ kvs, H p = some (.dK kvs)) ∨ ∃ kvs, H p = some (.dT kvs))) ∨ (T = "set" ∧ ∃ S n, H p = some (.set S n))
  | _ => False
theorem tyV_is {pins : List (Addr × Obj)} {σ : St} {H : Hp} {s : Shared} {T : String} {x : V} {v : Value} (I : Inv X pins σ H s) (r : RelV x v) (ty : tyV X.K T x H) :
    s.TypeIs v T ∧ ∀ a, v = .ref a → ∃ ob, s.heap.get? a = some ob ∧ ob.dict = none := by
  cases x with
  | str z =>
    obtain ⟨t, rfl⟩ := r
    cases (show T = "str" from ty)
    exact ⟨typeIs_str s z t, fun _ e => nomatch e⟩
  | int i =>
    obtain ⟨t, rfl⟩ := r
    cases (show T = "int" from ty)
    exact ⟨typeIs_int s i t, fun _ e => nomatch e⟩
  | ref p =>
    cases r
    rcases ty with ⟨rfl, xs, hq⟩ | ⟨rfl, o, hk, hc, hd⟩ | ⟨rfl, hk⟩ | ⟨rfl, S, n, hk⟩
    · obtain ⟨its, _, pl, _⟩ := I.list hq
      refine ⟨pl.isList.typeIs, fun a e => ?_⟩
      cases e
      obtain ⟨o, n, e, c, hd, _⟩ := pl
      exact ⟨o, e, hd⟩
    · refine ⟨⟨o, I.kIn p o hk, hc⟩, fun a e => ?_⟩
      cases e
      exact ⟨o, I.kIn _ o hk, hd⟩
    · have z : ∃ o, s.heap.get? p = some o ∧ o.ExactDict := by
        rcases hk with ⟨kvs, hk⟩ | ⟨kvs, hk⟩
        · obtain ⟨_, _, _, _, o, _, _, e, ex, _⟩ := I.hok p _ hk
          exact ⟨o, e, ex⟩
        · obtain ⟨_, _, _, _, o, _, _, e, ex, _⟩ := I.hok p _ hk
          exact ⟨o, e, ex⟩
      obtain ⟨o, e, ex⟩ := z
      refine ⟨⟨o, e, ex.1⟩, fun a e2 => ?_⟩
      cases e2
      exact ⟨o, e, ex.2.1⟩
    · obtain ⟨o, _, _, _, e, ex, _⟩ := I.hok p _ hk
      refine ⟨⟨o, e, ex.1⟩, fun a e2 => ?_⟩
      cases e2
      exact ⟨o, e, ex.2.1⟩
  | _ => exact False.elim ty
def tBM (K : PySem.W.Frag) (T : String) (r : V → List V → Hp → VK → Prop) (to : TE) (t : TA) : TE := fun σ H Q => to σ H fun x H1 => tyV K T x H1 ∧ t σ H1 fun xs H2 => r x xs H2 Q
variable {o e : Expr} {es : List Expr} {to : TE} {t : TA} {name : Str} {apos cpos : Pos} {T id : String} {r : V → List V → Hp → VK → Prop}
theorem pe_bm (pa : PlainAttrs T) (slot : Slot T name id) (hty : typeOf (.builtin id) = pure (.type "method_descriptor")) (hm : MtR X id r) (ho : PE X o to) (ha : PA X (e :: es) t)
    (hbase : attributeBase o name X.env (eval o X.env) = eval o X.env := by rfl)
    (hfew : ((backTo cpos (starEach (e :: es) X.env)).all (fun x => !x.1) && (backToKw cpos (keywordEach [] X.env)).all (fun x => x.1.isSome)
      && decide ((e :: es).length + ([] : List Keyword).length + (if ([] : List Keyword).isEmpty then 0 else 1) < 30)) = true := by rfl)
    (hline : (apos.endLine == cpos.line) = true := by rfl) (hs : starEach (e :: es) X.env = (false, eval e X.env) :: starEach es X.env := by rfl) (hplain : (backTo cpos (starEach es X.env)).any (·.1) = false := by rfl) :
    PE X (.Call (.Attribute o name apos) (e :: es) [] cpos) (tBM X.K T r to t) := by
  intro pins s σ H Q I h
  refine wpAny_Call_method_late hbase hfew hline rfl (thn (ho pins s σ H _ I h) fun v s1 ⟨x, H1, I1, r1, ty, q1⟩ => ?_)
  obtain ⟨h1, h2⟩ := tyV_is I1 r1 ty
  refine ⟨T, id, pa, slot, hty, h1, h2, ?_⟩
  have hA := ha cpos pins s1 σ H1 _ I1 q1
  rw [hs] at hA ⊢
  refine Calls.callWith_builtin (by show (false || (backTo cpos (starEach es X.env)).any (·.1)) = false; rw [hplain] <;> rfl) (Calls.evalArgs_plain ?_)
  exact thn hA fun us s2 ⟨vs, H2, I2, r2, q2⟩ => hm pins s2 σ H2 x vs v us Q I2 r1 r2 q2
end
end L2
namespace L2
open PySem PySem.Spec PyProof.Rows
def MtM (X : Cx) (id : String) (r : V → List V → Hp → VK → Prop) : Prop :=
  ∀ (pins : List (Addr × Obj)) (s : Shared) (σ : St) (H : Hp) (x : V) (xs : List V) (v : Value) (us : List Value) (Q : VK), Inv X pins σ H s → RelV x v → Vals xs us → r x xs H Q →
    wpAny (model X.prog X.w) X.A (call (.builtin id) (v :: us)) (EP X pins σ Q) X.xe s
theorem Vals.one : ∀ {x : V} {us : List Value}, Vals [x] us → ∃ u, us = [u] ∧ RelV x u
  | _, _, .cons r .nil => ⟨_, rfl, r⟩
theorem Vals.zero : ∀ {us : List Value}, Vals [] us → us = []
  | _, .nil => rfl
theorem Vals.rep {xs : List V} {us : List Value} (h : Vals xs us) : ∀ k : Nat, Vals (List.replicate k xs).flatten (List.replicate k us).flatten
  | 0 => .nil
  | k + 1 => by
    rw [List.replicate_succ, List.replicate_succ, List.flatten_cons, List.flatten_cons]
    exact Vals.append h (Vals.rep h k)
theorem foldl_rep (its : List Value) : ∀ (k : Nat) (acc : List Value),
    List.foldl (fun x1 x2 => x1 ++ x2) acc.toArray (List.replicate k its.toArray) = (acc ++ (List.replicate k its).flatten).toArray
  | 0, acc => by simp
  | k + 1, acc => by
    have e : acc.toArray ++ its.toArray = (acc ++ its).toArray := by simp
    have e2 : (acc ++ its) ++ (List.replicate k its).flatten = acc ++ (List.replicate (k + 1) its).flatten := by
      rw [List.replicate_succ, List.flatten_cons, List.append_assoc]
    rw [← e2, ← foldl_rep its k (acc ++ its), ← e, List.replicate_succ, List.foldl_cons]
section
variable {X : Cx} {pins : List (Addr × Obj)} {σ : St} {H : Hp} {s : Shared} {l b : Addr} {xs ys zs : List V}
theorem Inv.lset {its its' : List Value} {n : Nat} {f : Array Value → Array Value} {t' : Nat} (I : Inv X pins σ H s) (hH : H l = some (.lst xs))
    (e : s.heap.get? l = some { cls := .type "list", data := .seq its.toArray n }) (hf : f its.toArray = its'.toArray) (hv : Vals ys its') (hz : ys.length ≤ sizeLine) :
    Inv X pins σ (upd H l (.lst ys)) { s with heap := s.heap.update l (Obj.mapSeq f), toks := t' } := by
  have q := PySem.IsL.update e f
  rw [hf] at q
  refine I.write (x := l) (e := l) (by rw [hH]; exact trivial) (.inl rfl) (fun b' u hb hu => (Heap.get?_update_other s.heap (Obj.mapSeq f) (Ne.symm hb)).trans hu) ⟨_, q⟩ ?_
  exact ⟨hz, its', _, hv, q⟩
theorem Inv.lnew {its : List Value} {t' : Nat} (I : Inv X pins σ H s) (hv : Vals ys its) (hz : ys.length ≤ sizeLine) :
    Inv X pins σ (upd H s.heap.objs.size (.lst ys)) { s with heap := s.heap.push { cls := .type "list", data := .seq its.toArray }, toks := t' } :=
  I.laid (fun _ _ q => Heap.get?_push_of_some _ q) (Nat.le_refl _) ⟨hz, its, 0, hv, Heap.get?_push_size _ rfl⟩
theorem Inv.fresh (I : Inv X pins σ H s) : H s.heap.objs.size = none := I.hok.fresh (Nat.le_refl _)
theorem Inv.lstM (I : Inv X pins σ H s) (hH : H l = some (.lst xs)) : xs.length ≤ sizeLine ∧ ∃ (its : List Value) (n : Nat), Vals xs its ∧ xs.length = its.length ∧ s.heap.get? l = some { cls := .type "list", data := .seq its.toArray n } := by
  obtain ⟨z, its, n, r, e⟩ := I.hok l _ hH
  exact ⟨z, its, n, r, r.length, e⟩
theorem notLongL {n : Nat} (h : n ≤ sizeLine) : Builtin.List.listTooLong n = false := by
  unfold Builtin.List.listTooLong
  exact decide_eq_false (by omega)
end
section
variable {X : Cx}
def rAppend : V → List V → Hp → VK → Prop := fun x vs H Q => ∃ l xs y, x = .ref l ∧ vs = [y] ∧ H l = some (.lst xs) ∧ xs.length < sizeLine ∧ Q .non (upd H l (.lst (xs ++ [y])))
theorem mt_append : MtM X "list.append" rAppend := by
  intro pins s σ H x vs v us Q I rx rv h
  obtain ⟨l, xs, y, rfl, rfl, hH, hz, q⟩ := h
  cases rx
  obtain ⟨u, rfl, ru⟩ := rv.one
  obtain ⟨z, its, n, r, hl, e⟩ := I.lstM hH
  refine call_meets F.slot_list_append ⟨_, e, rfl⟩ F.entry_list_append (F.args_list_append_2 _ _) (PySem.list_append l its.toArray n u (by rw [List.size_toArray]; omega)) ⟨e, ?_⟩
  refine ⟨.non, _, I.lset (its' := its ++ [u]) hH e (by simp) (r.append (.cons ru .nil)) ?_, rfl, q⟩
  rw [List.length_append, List.length_singleton]
  omega
def rCat : R2 := fun x y H Q => ∃ l b xs zs, x = .ref l ∧ y = .ref b ∧ H l = some (.lst xs) ∧ H b = some (.lst zs) ∧ xs.length + zs.length ≤ sizeLine ∧ ∀ p, H p = none → Q (.ref p) (upd H p (.lst (xs ++ zs)))
theorem op_cat : OpR X (binaryOp .Add) rCat := by
  intro pins s σ H x y v u Q I rx ry h
  obtain ⟨l, b, xs, zs, rfl, rfl, hH, hB, hz, q⟩ := h
  cases rx
  cases ry
  obtain ⟨z, its, n, r, hl, e⟩ := I.lstM hH
  obtain ⟨z2, its2, n2, r2, hl2, e2⟩ := I.lstM hB
  refine PySem.P.add_list e e2 ?_ (by rw [List.size_toArray, List.size_toArray]; omega)
  have ea : its.toArray ++ its2.toArray = (its ++ its2).toArray := by simp
  rw [ea]
  exact ⟨.ref _, _, I.lnew (t' := s.toks) (r.append r2) (by rw [List.length_append]; omega), rfl, q _ I.fresh⟩
def rRep : R2 := fun x y H Q => ∃ l k xs, x = .ref l ∧ y = .int k ∧ H l = some (.lst xs) ∧ -(2 ^ 63) ≤ k ∧ k < 2 ^ 63 ∧ xs.length * k.toNat ≤ sizeLine ∧
  ∀ p, H p = none → Q (.ref p) (upd H p (.lst (List.replicate k.toNat xs).flatten))
theorem len_rep {α : Type} (xs : List α) (k : Nat) : (List.replicate k xs).flatten.length = k * xs.length := by
  induction k with
  | zero => simp
  | succ k ih => rw [List.replicate_succ, List.flatten_cons, List.length_append, ih, Nat.succ_mul, Nat.add_comm]
theorem op_rep : OpR X (binaryOp .Mult) rRep := by
  intro pins s σ H x y v u Q I rx ry h
  obtain ⟨l, k, xs, rfl, rfl, hH, h1, h2, hz, q⟩ := h
  cases rx
  obtain ⟨t, rfl⟩ := ry
  obtain ⟨z, its, n, r, hl, e⟩ := I.lstM hH
  have hlen : its.toArray.size * k.toNat ≤ sizeLine := by rw [List.size_toArray, ← hl]; exact hz
  have hcap : ¬ its.toArray.size * k.toNat > (2 ^ 63 - 1) / 8 := by
    have : (sizeLine : Nat) ≤ (2 ^ 63 - 1) / 8 := by decide
    omega
  have hfit : ¬ (!Builtin.List.listFitsIndex k) = true := by
    rw [fitsIndex_both h1 h2]
    exact Bool.false_ne_true
  have hlong : ¬ Builtin.List.listTooLong (its.toArray.size * k.toNat) = true := by
    rw [notLongL hlen]
    exact Bool.false_ne_true
  have hnew : List.foldl (fun x1 x2 => x1 ++ x2) #[] (List.replicate (if its.toArray.isEmpty = true then 0 else k.toNat) its.toArray) = (List.replicate k.toNat its).flatten.toArray := by
    have f0 : ∀ m : Nat, List.foldl (fun x1 x2 => x1 ++ x2) #[] (List.replicate m its.toArray) = (List.replicate m its).flatten.toArray := fun m => by
      have := foldl_rep its m []
      rw [List.nil_append] at this
      exact this
    rw [f0]
    cases its with
    | nil => simp
    | cons a r' => rw [if_neg (by simp)]
  refine wpAny_binaryOp_repeat_ref (T := "list") (U := "int") (by decide) ⟨_, e, rfl⟩ (fun s' => typeIs_int s' k t) noFill_list_mul F.fills_int_mul F.slot_int_rmul repeat_list F.slot_int_index.lookup
    (call_meets F.slot_int_rmul (typeIs_int s k t) F.entry_int_rmul (F.args_int_rmul_2 _ _) (int___rmul___int_list k t l its.toArray n)
      ⟨e, rfl, ⟨_, e, rfl⟩, call_meets F.slot_list_mul ⟨_, e, rfl⟩ F.entry_list_mul (F.args_list_mul_2 _ _) (AutoListH.list___mul___list_int_3 l its.toArray n k t hfit hcap hlong) ⟨e, ?_⟩⟩)
  rw [hnew]
  exact ⟨.ref _, _, I.lnew (t' := s.toks) (r.rep k.toNat) (by rw [len_rep, Nat.mul_comm]; exact hz), rfl, q _ I.fresh⟩
end
section
variable {prog : Program} {w : World} {A : Around} {E : Value → Shared → Prop} {s : Shared}
end
section
variable {X : Cx}
end
end L2
namespace Att
open PySem PySem.W PySem.Calls PyProof.Rows
theorem ints_of_wellAll {P : Params} {h : Heap} : ∀ (ns : List Int) (vs : List Value), WellAll P h vs (ns.map WData.int) → IntsAre vs ns := by
  intro ns
  induction ns with
  | nil =>
    intro vs w
    rw [List.map_nil] at w
    cases w
    exact .nil
  | cons n ns ih =>
    intro vs w
    rw [List.map_cons] at w
    cases w with
    | cons a b =>
      cases a
      exact .cons _ _ (ih _ b)
theorem script_of {l : OpenLaw} {n : Nat} (hn : l.most = some n) {P : Params} {h : Heap} {args : List WData} {vals : List Value}
    (hpre : l.row.toRowW.claim.pre args = true) (hwl : WellAll P h vals args) :
    ∃ a vs ns, vals = [Value.ref a] ∧ args = [WData.list (ns.map WData.int)] ∧ h.get? a = some { cls := .type "list", data := .seq vs.toArray } ∧ IntsAre vs ns ∧ ns.length ≤ n := by
  have hsh : WShape.hasAll [] args [.list .int] = true := (pre_splitW hpre).1
  have hc : l.pre.holds [] { args := args } = true := (pre_splitW hpre).2
  obtain ⟨d, r, rfl, h1, h2⟩ := hasAllW_cons hsh
  obtain rfl := hasAllW_nil h2
  obtain ⟨xs, rfl, h3⟩ := hasW_list h1
  obtain ⟨ns, rfl⟩ := items_int h3
  have hlen : ns.length ≤ n := by
    unfold OpenLaw.pre at hc
    have h4 : (WTm.not (.lt (.lit (.int (n : Int))) (.len (.arg 0)))).holds [] { args := [.list (ns.map .int)] } = true := by
      have h4 := (holds_andW hc).1
      rw [hn] at h4
      exact h4
    have h5 := condW_of h4 (w_not (w_lt w_lit (w_len_list (w_arg rfl))))
    rw [List.length_map] at h5
    refine Nat.le_of_not_lt fun q => ?_
    have q' : (n : Int) < ((ns.length : Nat) : Int) := by omega
    first
      | (rw [decide_eq_true q'] at h5; exact absurd h5 (by decide))
      | (simp at h5; omega)
  cases hwl with
  | cons w1 w2 =>
    cases w2
    cases w1 with
    | list ho hall => exact ⟨_, _, ns, rfl, rfl, ho, ints_of_wellAll ns _ hall, hlen⟩
theorem post_true (l : OpenLaw) (args : List WData) : l.row.toRowW.claim.post args (.bool true) args = true :=
  postW_of (r := l.row.toRowW) (X := (true == true))
    (show WShape.has [] (.bool true) .bool = true by first | rfl | decide | simp [WShape.has, WShape.arms, WShape.armsAll])
    (show (WTm.eq .res (.lit (.bool true))).value [] { args := args, res := some (.bool true), after := args } = some (.bool (true == true)) from w_eq_bool (w_res rfl) w_lit) rfl
theorem attach_call {l : OpenLaw} {n : Nat} {q : Program} {loose : List Str} {XP : (Str → Option Value) → Heap → Prop} {YP : World → Heap → Prop} {d : DefRec}
    (hn : l.most = some n) (hdf : d.params.defaults = [])
    (call : ∀ (w : World) (s₀ s₁ : Shared) (mg mb : Str → Option Value) (fa : Addr) (o : Obj) (pm cd doc : Value) (a : Addr) (vs : List Value) (ns : List Int),
      Ground q loose [] XP w s₀ mg mb s₁.heap → YP w s₁.heap →
      s₁.heap.get? fa = some o → o.data = .func (docDef d.name d.params d.body d.scope pm cd doc) → s₁.heap.CodeRec cd d.name → mg d.name = some (.ref fa) →
      s₁.heap.get? a = some { cls := .type "list", data := .seq vs.toArray } → IntsAre vs ns → ns.length ≤ n → s₁.gens = #[] →
      codeAny (model l.prog w) callerA (.call (.ref fa) ⟨[.ref a], []⟩) (fun r s' => r = .ok (.ret (.bool true)) ∧ OldK s₁.heap s'.heap ∧ s'.os = s₁.os ∧ AllBare s'.gens) s₁) :
    WalkO q loose XP YP l.row.toRowW d [] (fun f vs => PySem.call f vs) := by
  intro w s₀ s₁ mg mb G Y fa o pm cd doc dV kV ho hd hcd hD hmg hg args vals as hpre hlay hrd hwl hlo
  obtain rfl : dV = .none := Dflts.none hD hdf
  obtain rfl : kV = .none := Dflts.noKw hD
  obtain ⟨a, vs, ns, rfl, rfl, hobj, hints, hlen⟩ := script_of hn hpre hwl
  refine enter_call (codeAny_mono (call w s₀ s₁ mg mb fa o pm cd doc a vs ns G Y ho (fd_plain hd) hcd hmg hobj hints hlen hg) fun r s' hq => ?_)
  obtain ⟨rfl, h2, h3, h4⟩ := hq
  exact ⟨.inl ⟨.bool true, .bool true, [], rfl, fun _ => rfl, .bool true, post_true l _, fun _ => ⟨List.Pairwise.nil, fun _ hm => (nomatch hm)⟩⟩, h2, h3, h4⟩
section
variable {prog : Program} {w : World} {A : Around} {E : Value → Shared → Prop} {s : Shared} {K : Frag}
end
end Att
namespace L2
open PySem PySem.Spec PyProof.Rows
theorem vals_ints : ∀ {vs : List Value} {ns : List Int}, IntsAre vs ns → Vals (ns.map V.int) vs
  | _, _, .nil => .nil
  | _, _, .cons n t h => .cons ⟨t, rfl⟩ (vals_ints h)
def Only (H : Hp) : Prop := ∀ b, H b = none ∨ ∃ o xs, H b = some (.frz o (.lst xs))
theorem law_call {P : Program} {w : World} {K : PySem.W.Frag} {mg mb : Str → Option Value} {CX : CXT} {k : Nat} {fa a : Addr} {fd : FuncData} {x : Str} {sp : Sp} {s₁ : Shared} {vs : List Value} {ns : List Int}
    (KX : K.In s₁.heap) (hns : s₁.heap.Ns mainGlobals mg) (hb : s₁.heap.Ns builtinsNs mb) (hbb : ∀ x : Str, x ≠ "__name__" → mb x = bootBuiltins x) (hlim : s₁.heap.NoLimit) (hg : s₁.gens = #[])
    (ha : s₁.heap.get? a = some { cls := .type "list", data := .seq vs.toArray }) (hi : IntsAre vs ns) (hl : ns.length ≤ sizeLine) (hr : Room k callerA)
    (F : ∀ base : Heap, K.In base → base.Ns mainGlobals mg → FnOk P w K mg base CX k fa fd [x] sp) (hbind : ∀ (s : Shared) (u : Value), BindsTo s fd ⟨[u], []⟩ [(x, u)])
    (hsp : ∀ H : Hp, Only H → SqL K H a (ns.map V.int) → sp [.ref a] H (fun v _ => v = .bl true) fun _ _ _ => False)
    (hCX : ∀ H e s', CX [] H s₁ (fun _ _ _ => False) e s' → False) :
    codeAny (model P w) callerA (.call (.ref fa) ⟨[.ref a], []⟩) (fun r s' => r = .ok (.ret (.bool true)) ∧ OldK s₁.heap s'.heap ∧ s'.os = s₁.os ∧ AllBare s'.gens) s₁ := by
  have rv := vals_ints hi
  have lenV := hi.length
  have core : ∀ H : Hp, Only H → SqL K H a (ns.map V.int) → HOk P w H s₁.heap → (∀ b, H b ≠ none → b = a) → (H a ≠ none → K.lookup a = none) →
      codeAny (model P w) callerA (.call (.ref fa) ⟨[.ref a], []⟩) (fun r s' => r = .ok (.ret (.bool true)) ∧ OldK s₁.heap s'.heap ∧ s'.os = s₁.os ∧ AllBare s'.gens) s₁ := by
    intro H hO hS hok hA hK
    have base_of : ∀ {b : Addr} {o : Obj}, s₁.heap.get? b = some o → H b = none → (hidT s₁.heap H).get? b = some o := fun e n => hidT_get e n
    have noA : ∀ {b : Addr} {o : Obj} {es : Array DictEntry} {ep : Nat}, s₁.heap.get? b = some o → o.data = .dict es ep → H b = none := fun {b o es ep} e d => by
      cases q : H b with
      | none => rfl
      | some u =>
        have e' : b = a := hA b (by rw [q]; simp)
        subst e'
        rw [ha] at e; cases e
        have d' : Data.seq vs.toArray _ = Data.dict es ep := d
        cases d'
    have nsK : ∀ {b : Addr} {m : Str → Option Value}, s₁.heap.Ns b m → (hidT s₁.heap H).Ns b m := fun {b m} ⟨o, es, ep, e, d, r⟩ => ⟨o, es, ep, base_of e (noA e d), d, r⟩
    have hKb : K.In (hidT s₁.heap H) := fun b o e => base_of (KX b o e) (by
      cases q : H b with
      | none => rfl
      | some u =>
        have e' : b = a := hA b (by rw [q]; simp)
        subst e'
        rw [hK (by rw [q]; simp)] at e; cases e)
    have hM : Mod K mg (hidT s₁.heap H) := ⟨hKb, nsK hns, ⟨mb, nsK hb, hbb⟩, let ⟨mc, h1, h2⟩ := hlim; ⟨mc, nsK h1, h2⟩⟩
    have e0 : Env0 P w K mg (hidT s₁.heap H) callerA [] s₁ H := ⟨rfl, hM, fun b o e => of_hidT e, Nat.le_of_eq (hidT_size _ _), trivial, fun b hb => absurd (show b ∈ ([] : List Addr) from hb) (by simp), hok, .of_eq hg⟩
    refine codeAny_mono ((F _ hKb (nsK hns)).run callerA [] s₁ H ⟨[.ref a], []⟩ [.ref a] [.ref a] _ _ hr e0 (hbind s₁ (.ref a)) (.cons rfl .nil) (hsp H hO hS)) fun r s' h => ?_
    cases r with
    | error e => exact (hCX H e s' h).elim
    | ok fl =>
      cases fl with
      | next => exact False.elim h
      | brk => exact False.elim h
      | cont => exact False.elim h
      | ret u =>
        obtain ⟨v, H', os, bare, un, hok', r', q⟩ := h
        have q' : v = .bl true := q
        subst q'
        obtain rfl : u = Value.bool true := r'
        refine ⟨rfl, OldK.of_keep fun b o e => ?_, os, bare⟩
        cases q : H b with
        | none => exact un.keep b o e q (by intro z; exact absurd (show b ∈ ([] : List Addr) from z) (by simp)) (by simp)
        | some u =>
          rcases hO b with z | ⟨ob, xs, z⟩
          · rw [q] at z; cases z
          · have z2 := un.frzs b ob _ z
            obtain ⟨e1, _⟩ := hok b _ z
            obtain ⟨e2, _⟩ := hok' b _ z2
            rw [e] at e1; cases e1
            exact e2
  cases hk : K.lookup a with
  | some o =>
    have e := KX a o hk
    rw [ha] at e
    cases e
    refine core (fun _ => none) (fun _ => .inl rfl) (.inr ⟨_, vs.toArray, _, hk, rfl, rfl, rfl, by rw [List.size_toArray, lenV]; exact hl, by simpa using rv⟩) (fun b u z => by have z' : (none : Option HO) = some u := z; cases z') (fun b z => absurd rfl z) fun z => absurd rfl z
  | none =>
    refine core (fun b => if b = a then some (.frz { cls := .type "list", data := .seq vs.toArray } (.lst (ns.map V.int))) else none) (fun b => ?_) (.inl (.inr ⟨{ cls := .type "list", data := .seq vs.toArray }, if_pos rfl⟩)) (fun b u z => ?_) (fun b z => ?_) fun _ => hk
    · by_cases hb : b = a
      · exact .inr ⟨_, _, if_pos hb⟩
      · exact .inl (if_neg hb)
    · by_cases hb : b = a
      · have z' := (if_pos hb).symm.trans z
        cases z'
        subst hb
        exact ⟨ha, by rw [List.length_map]; exact hl, vs, _, rv, ha⟩
      · have z' := (if_neg hb).symm.trans z
        cases z'
    · by_cases hb : b = a
      · exact hb
      · exact absurd (if_neg hb) z
end L2
namespace L2
open PySem PySem.Spec PyProof.Rows
theorem walk_of {l : PySem.W.OpenLaw} {n k : Nat} {q : Program} {loose : List Str} {XP : (Str → Option Value) → Heap → Prop} {YP : World → Heap → Prop} {d : DefRec} {K : Params → PySem.W.Frag} {CX : World → CXT} {sp : World → Sp} {x : Str}
    (hn : l.most = some n) (hn2 : n ≤ sizeLine) (hdf : d.params.defaults = []) (hr : Room k callerA)
    (hY : ∀ (w : World) (h : Heap), YP w h → (K w.params).In h)
    (F : ∀ (w : World) (mg : Str → Option Value) (fa : Addr) (h : Heap), (K w.params).In h → h.Ns mainGlobals mg → mg d.name = some (.ref fa) →
      ∃ fd : FuncData, (∀ (s : Shared) (u : Value), BindsTo s fd ⟨[u], []⟩ [(x, u)]) ∧
        ∀ base : Heap, (K w.params).In base → base.Ns mainGlobals mg → FnOk l.prog w (K w.params) mg base (CX w) k fa fd [x] (sp w))
    (hsp : ∀ (w : World) (H : Hp) (a : Addr) (ns : List Int), ns.length ≤ n → Only H → SqL (K w.params) H a (ns.map V.int) → sp w [.ref a] H (fun v _ => v = .bl true) fun _ _ _ => False)
    (hCX : ∀ (w : World) (H : Hp) (s : Shared) (e : Value) (s' : Shared), CX w [] H s (fun _ _ _ => False) e s' → False) :
    PySem.W.WalkO q loose XP YP l.row.toRowW d [] (fun f vs => PySem.call f vs) := by
  refine Att.attach_call hn hdf fun w s₀ s₁ mg mb fa o pm cd doc a vs ns G Y ho hd hcd hmg hobj hints hlen hg => ?_
  have KX := hY w _ Y
  obtain ⟨fd, hb, hF⟩ := F w mg fa _ KX G.T.g hmg
  exact law_call KX G.T.g G.T.b G.T.builtins G.T.nolimit hg hobj hints (Nat.le_trans hlen hn2) hr hF hb (fun H hO hS => hsp w H a ns hlen hO hS) fun H e s' => hCX w H s₁ e s'
end L2
namespace L2
open PySem PySem.Spec PyProof.Rows
def defArgs (s : Stmt) : Arguments := match s with
  | .FunctionDef _ a _ _ _ _ _ _ _ _ => a
  | _ => { posonlyargs := [], args := [], vararg := none, kwonlyargs := [], kw_defaults := [], kwarg := none, defaults := [] }
def defBody (s : Stmt) : List Stmt := match s with
  | .FunctionDef _ _ b _ _ _ _ _ _ _ => b
  | _ => []
def defScope (s : Stmt) : Scope := match s with
  | .FunctionDef _ _ _ _ _ _ sc _ _ _ => sc
  | _ => { kind := .function, names := [], isGenerator := false, isCoroutine := false }
abbrev CX0 : CXT := fun _ _ _ _ _ _ => False
abbrev E0 : XK := fun _ _ _ => False
theorem pass0 {X : Cx} : Passes CX0 X E0 := fun _ _ _ _ _ _ _ h => h.elim
structure Fun (K : PySem.W.Frag) (x qual : Str) (st : Stmt) (f : Addr) (fd : FuncData) : Prop where
  ex : ∃ (oc : Value) (od : Option Addr) (kV doc pm : Value) (an : Option Addr) (cdv ct : Value) (osl : Array (Option Value)),
    fd = PySem.W.fnOf x qual (defArgs st) (defBody st) (defScope st) .none kV doc pm an cdv ct ∧ K.lookup f = some ⟨oc, od, .func fd, osl⟩ ∧ PySem.W.codeIn K cdv qual = true
  kp : PySem.W.keepIn K (.ref f) = true
section
variable {P : Program} {w : World} {K : PySem.W.Frag} {mg : Str → Option Value} {base : Heap}
theorem Fun.ok {x qual : Str} {st : Stmt} {f : Addr} {fd : FuncData} {N ps : List Str} {k : Nat} {sp : Sp} (F : Fun K x qual st f fd) (S : FnScope N ps (defScope st)) (len : ∀ vs H Q E, sp vs H Q E → vs.length = ps.length)
    (hbody : ∀ (cdv : Value) (A : Around) (outer : List Env) (s : Shared) (H : Hp) (vs : List V) (Q : VK) (E : XK), Room k (A.deeper (envOfC qual (defScope st) s.heap.objs.size f cdv)) → sp vs H Q E →
      ∃ t, PSs (cxOf CX0 P w K mg base N qual (defScope st) f cdv A outer s H E).nox (defBody st) t ∧ t { nx := fun _ H' => Q .non H', rt := Q } (start N vs) H) : FnOk P w K mg base CX0 (k + 1) f fd ps sp := by
  obtain ⟨oc, od, kV, doc, pm, an, cdv, ct, osl, rfl, lk, hcd⟩ := F.ex
  refine fn_of lk hcd S len fun A outer s H vs Q E hr hsp => ?_
  obtain ⟨t, h, q⟩ := hbody cdv A outer s H vs Q E hr hsp
  exact ⟨t, h.nox, q⟩
theorem Fun.binds {x qual : Str} {st : Stmt} {f : Addr} {fd : FuncData} {ps : List Str} (F : Fun K x qual st f fd)
    (h : ∀ (kV doc pm : Value) (an : Option Addr) (cdv ct : Value) (us : List Value), us.length = ps.length → bindArgs (PySem.W.fnOf x qual (defArgs st) (defBody st) (defScope st) .none kV doc pm an cdv ct) ⟨us, []⟩ = pure (ps.zip us)) : Binds K fd ps [] := by
  obtain ⟨oc, od, kV, doc, pm, an, cdv, ct, osl, rfl, lk, hcd⟩ := F.ex
  exact .all (h kV doc pm an cdv ct)
theorem fun_mk {x qual : Str} {st : Stmt} {f : Addr} {oc : Value} {od an : Option Addr} {osl : Array (Option Value)} {kV doc pm cdv ct : Value} (l : K.lookup f = some ⟨oc, od, .func (PySem.W.fnOf x qual (defArgs st) (defBody st) (defScope st) .none kV doc pm an cdv ct), osl⟩)
    (c : PySem.W.codeIn K cdv qual = true) (k : PySem.W.keepIn K (.ref f) = true) : Fun K x qual st f (PySem.W.fnOf x qual (defArgs st) (defBody st) (defScope st) .none kV doc pm an cdv ct) := ⟨⟨oc, od, kV, doc, pm, an, cdv, ct, osl, rfl, l, c⟩, k⟩
end
section
variable {X : Cx}
end
def Same (H H' : Hp) : Prop := ∀ b o, H b = some o → H' b = some o
theorem Same.refl (H : Hp) : Same H H := fun _ _ h => h
theorem Same.trans {H H1 H2 : Hp} (a : Same H H1) (b : Same H1 H2) : Same H H2 := fun c o h => b c o (a c o h)
theorem Same.free {H H' : Hp} (e : Same H H') {l : Addr} (h : H' l = Option.none) : H l = Option.none := by
  cases q : H l with
  | none => rfl
  | some o =>
    rw [e l o q] at h
    cases h
theorem Same.seq {K : PySem.W.Frag} {H H' : Hp} {a : Addr} {xs : List V} (e : Same H H') (h : SqL K H a xs) : SqL K H' a xs := by
  rcases h with (h | ⟨o, h⟩) | h
  · exact .inl (.inl (e _ _ h))
  · exact .inl (.inr ⟨o, e _ _ h⟩)
  · exact .inr h
end L2
set_option Elab.async false
set_option linter.all false
set_option maxRecDepth 100000
namespace L2
open PySem PySem.Spec PyProof.Rows
section
variable {κ : Type} [DecidableEq κ]
def valV (kvs : List (κ × V)) (k : κ) : Option V := (kvs.find? fun kv => decide (kv.1 = k)).map (·.2)
def putK (kvs : List (κ × V)) (k : κ) (v : V) : List (κ × V) :=
  if (kvs.any fun kv => decide (kv.1 = k)) = true then kvs.map (fun kv => if kv.1 = k then (kv.1, v) else kv) else kvs ++ [(k, v)]
def dropK (kvs : List (κ × V)) (k : κ) : List (κ × V) := kvs.filter fun kv => decide (kv.1 ≠ k)
theorem valV_pos {p : κ × V} {r : List (κ × V)} {k : κ} (e : p.1 = k) : valV (p :: r) k = some p.2 := by simp [valV, List.find?_cons, e]
theorem valV_neg {p : κ × V} {r : List (κ × V)} {k : κ} (e : ¬ p.1 = k) : valV (p :: r) k = valV r k := by simp [valV, List.find?_cons, e]
theorem valV_any (k : κ) : ∀ kvs : List (κ × V), (kvs.any fun kv => decide (kv.1 = k)) = (valV kvs k).isSome
  | [] => rfl
  | p :: r => by
    rw [List.any_cons]
    by_cases e : p.1 = k
    · simp only [valV_pos e, decide_eq_true e, Bool.true_or, Option.isSome_some]
    · rw [valV_neg e, decide_eq_false e, Bool.false_or]; exact valV_any k r
theorem RelO.isSome_eq {o : Option V} {u : Option Value} (r : RelO o u) : o.isSome = u.isSome := by
  cases o with
  | none => cases u with
    | none => rfl
    | some _ => exact (show False from r).elim
  | some _ => cases u with
    | none => exact (show False from r).elim
    | some _ => rfl
theorem RelO.getD {o : Option V} {u : Option Value} {d : V} {d' : Value} (r : RelO o u) (rd : RelV d d') : RelV (o.getD d) (u.getD d') := by
  cases o with
  | none => cases u with
    | none => exact rd
    | some _ => exact (show False from r).elim
  | some _ => cases u with
    | none => exact (show False from r).elim
    | some _ => exact r
theorem KV.val {kvs : List (κ × V)} {vs : List (κ × Value)} (r : KV kvs vs) (k : κ) : RelO (valV kvs k) (valueAt vs k) := by
  unfold KV at r
  induction r with
  | nil => exact True.intro
  | @cons p q ps qs h t ih =>
    obtain ⟨h1, h2⟩ := h
    by_cases e : p.1 = k
    · have e' : q.1 = k := h1.symm.trans e
      have b : valueAt (q :: qs) k = some q.2 := by simp [valueAt, List.find?_cons, e']
      rw [valV_pos e, b]; exact h2
    · have e' : ¬ q.1 = k := fun z => e (h1.trans z)
      have b : valueAt (q :: qs) k = valueAt qs k := by simp [valueAt, List.find?_cons, e']
      rw [valV_neg e, b]; exact ih
theorem KV.any {kvs : List (κ × V)} {vs : List (κ × Value)} (r : KV kvs vs) (k : κ) : (kvs.any fun kv => decide (kv.1 = k)) = vs.any fun kv => decide (kv.1 = k) := by
  unfold KV at r
  induction r with
  | nil => rfl
  | cons h t ih => rw [List.any_cons, List.any_cons, ih, h.1]
theorem KV.repl {kvs : List (κ × V)} {vs : List (κ × Value)} (r : KV kvs vs) (k : κ) {y : V} {u : Value} (ry : RelV y u) :
    KV (kvs.map fun kv => if kv.1 = k then (kv.1, y) else kv) (vs.map fun kv => if kv.1 = k then (kv.1, u) else kv) := by
  unfold KV at r ⊢
  induction r with
  | nil => exact .nil
  | @cons p q ps qs h t ih =>
    rw [List.map_cons, List.map_cons]
    refine .cons ?_ ih
    obtain ⟨h1, h2⟩ := h
    by_cases e : p.1 = k
    · rw [if_pos e, if_pos (h1.symm.trans e)]; exact ⟨h1, ry⟩
    · rw [if_neg e, if_neg (fun z => e (h1.trans z))]; exact ⟨h1, h2⟩
theorem KV.put {kvs : List (κ × V)} {vs : List (κ × Value)} (r : KV kvs vs) (k : κ) {y : V} {u : Value} (ry : RelV y u) : KV (putK kvs k y) (stored vs k u) := by
  unfold putK stored
  rw [r.any k]
  by_cases e : (vs.any fun kv => decide (kv.1 = k)) = true
  · rw [if_pos e, if_pos e]; exact r.repl k ry
  · rw [if_neg e, if_neg e]; exact Paired.snoc r ⟨rfl, ry⟩
theorem KV.drop {kvs : List (κ × V)} {vs : List (κ × Value)} (r : KV kvs vs) (k : κ) : KV (dropK kvs k) (without vs k) := by
  unfold KV at r ⊢
  unfold dropK without
  induction r with
  | nil => exact .nil
  | @cons p q ps qs h t ih =>
    obtain ⟨h1, h2⟩ := h
    rw [List.filter_cons, List.filter_cons]
    by_cases e : p.1 = k
    · have a : ¬ decide (p.1 ≠ k) = true := by simp [e]
      have b : ¬ decide (q.1 ≠ k) = true := by simp [h1.symm.trans e]
      rw [if_neg a, if_neg b]; exact ih
    · have e' : ¬ q.1 = k := fun z => e (h1.trans z)
      have a : decide (p.1 ≠ k) = true := by simp [e]
      have b : decide (q.1 ≠ k) = true := by simp [e']
      rw [if_pos a, if_pos b]; exact .cons ⟨h1, h2⟩ ih
theorem KV.length {kvs : List (κ × V)} {vs : List (κ × Value)} (r : KV kvs vs) : kvs.length = vs.length := Paired.length r
end
abbrev KT (H : Hp) : List (List Key × V) → List (List Key × Addr × Value) → Prop := Paired fun p q => p.1 = q.1 ∧ H q.2.1 = some (.tup (p.1.map kV)) ∧ RelV p.2 q.2.2
theorem KT.val {H : Hp} {kvs : List (List Key × V)} {xs : List (List Key × Addr × Value)} (r : KT H kvs xs) (k : List Key) : RelO (valV kvs k) ((atKey xs k).map (·.2)) := by
  induction r with
  | nil => exact True.intro
  | @cons p q ps qs h t ih =>
    obtain ⟨h1, _, h2⟩ := h
    by_cases e : p.1 = k
    · have e' : q.1 = k := h1.symm.trans e
      have b : atKey (q :: qs) k = some q.2 := by simp [atKey, List.find?_cons, e']
      rw [valV_pos e, b]; exact h2
    · have e' : ¬ q.1 = k := fun z => e (h1.trans z)
      have b : atKey (q :: qs) k = atKey qs k := by simp [atKey, List.find?_cons, e']
      rw [valV_neg e, b]; exact ih
theorem KT.repl {H : Hp} {kvs : List (List Key × V)} {xs : List (List Key × Addr × Value)} (r : KT H kvs xs) (k : List Key) {y : V} {u : Value} (ry : RelV y u) :
    KT H (kvs.map fun kv => if kv.1 = k then (kv.1, y) else kv) (xs.map (putAt k u)) := by
  induction r with
  | nil => exact .nil
  | @cons p q ps qs h t ih =>
    rw [List.map_cons, List.map_cons]
    refine .cons ?_ ih
    obtain ⟨h1, h2, h3⟩ := h
    unfold putAt
    by_cases e : p.1 = k
    · rw [if_pos e, if_pos (h1.symm.trans e)]; exact ⟨h1, h2, ry⟩
    · rw [if_neg e, if_neg (fun z => e (h1.trans z))]; exact ⟨h1, h2, h3⟩
theorem KT.put {H : Hp} {kvs : List (List Key × V)} {xs : List (List Key × Addr × Value)} (r : KT H kvs xs) (k : List Key) {b : Addr} {y : V} {u : Value} (hb : H b = some (.tup (k.map kV))) (ry : RelV y u) :
    KT H (putK kvs k y) (storedH xs k b u) := by
  have e : (kvs.any fun kv => decide (kv.1 = k)) = (atKey xs k).isSome := by
    rw [valV_any, (r.val k).isSome_eq, Option.isSome_map]
  unfold putK storedH
  rw [e]
  by_cases q : (atKey xs k).isSome = true
  · rw [if_pos q, if_pos q]; exact r.repl k ry
  · rw [if_neg q, if_neg q]; exact Paired.snoc r ⟨rfl, hb, ry⟩
theorem KT.keeps {H H' : Hp} {kvs : List (List Key × V)} {xs : List (List Key × Addr × Value)} (r : KT H kvs xs) (ht : ∀ b ys, H b = some (.tup ys) → H' b = some (.tup ys)) : KT H' kvs xs :=
  Paired.mapP r fun _ _ z => ⟨z.1, ht _ _ z.2.1, z.2.2⟩
section
variable {P : Program} {w : World} {H : Hp} {h : Heap} {a : Addr}
end
def DGet (H : Hp) (a : Addr) (y : V) (r : Option V) : Prop :=
  (∃ kvs k, Rd H a (.dK kvs) ∧ y = kV k ∧ r = valV kvs k) ∨ ∃ kvs k b, Rd H a (.dT kvs) ∧ y = .ref b ∧ H b = some (.tup (k.map kV)) ∧ r = valV kvs k
def DPut (H : Hp) (a : Addr) (y v : V) (H' : Hp) : Prop :=
  (∃ kvs k, H a = some (.dK kvs) ∧ y = kV k ∧ kvs.length < sizeLine ∧ H' = upd H a (.dK (putK kvs k v))) ∨
  ∃ kvs k b, H a = some (.dT kvs) ∧ y = .ref b ∧ H b = some (.tup (k.map kV)) ∧ kvs.length < sizeLine ∧ H' = upd H a (.dT (putK kvs k v))
theorem DGet.k {H : Hp} {a : Addr} {kvs : List (Key × V)} {k : Key} (e : H a = some (.dK kvs)) : DGet H a (kV k) (valV kvs k) := .inl ⟨kvs, k, .inl e, rfl, rfl⟩
theorem DGet.t {H : Hp} {a b : Addr} {kvs : List (List Key × V)} {k : List Key} (e : H a = some (.dT kvs)) (eb : H b = some (.tup (k.map kV))) : DGet H a (.ref b) (valV kvs k) := .inr ⟨kvs, k, b, .inl e, rfl, eb, rfl⟩
theorem DPut.k {H : Hp} {a : Addr} {kvs : List (Key × V)} {k : Key} {v : V} (e : H a = some (.dK kvs)) (hl : kvs.length < sizeLine) : DPut H a (kV k) v (upd H a (.dK (putK kvs k v))) := .inl ⟨kvs, k, e, rfl, hl, rfl⟩
theorem DPut.t {H : Hp} {a b : Addr} {kvs : List (List Key × V)} {k : List Key} {v : V} (e : H a = some (.dT kvs)) (eb : H b = some (.tup (k.map kV))) (hl : kvs.length < sizeLine) :
    DPut H a (.ref b) v (upd H a (.dT (putK kvs k v))) := .inr ⟨kvs, k, b, e, rfl, eb, hl, rfl⟩
section
variable {X : Cx} {pins : List (Addr × Obj)} {σ : St} {H : Hp} {s : Shared} {a : Addr} {y v : V} {u r : Value} {o : Option V} {A : Around} {E : Value → Shared → Prop}
theorem Inv.big (I : Inv X pins σ H s) : sysModules < s.heap.objs.size := by
  have h : mainGlobals < s.heap.objs.size := (I.mod.glob.keeps I.bk).lt
  exact Nat.lt_trans (by decide) h
end
section
variable {X : Cx} {pins : List (Addr × Obj)} {σ : St} {H : Hp} {s : Shared} {a : Addr} {kvs : List (Key × V)} {k : Key} {u : Value} {A : Around} {E : Value → Shared → Prop}
end
section
variable {X : Cx} {o i e value : Expr} {pos pos' tpos : Pos} {td ty tv : TE}
end
theorem dk_empty {P : Program} {w : World} {H : Hp} (h : Heap) (hb : sysModules < h.objs.size) : ObjOk P w H (h.push { cls := .type "dict", data := .dict #[] }) h.objs.size (.dK []) :=
  ⟨Nat.zero_le _, beq_eq_false_iff_ne.mpr (Ne.symm (Nat.ne_of_lt hb)), [], .nil, Heap.DictOf.new h⟩
def tDNewK : TE := fun _ H Q => ∀ p, H p = none → Q (.ref p) (upd H p (.dK []))
section
variable {X : Cx} {pos : Pos}
theorem pe_dnewK : PE X (.Dict [] [] pos) tDNewK := fun pins s σ H Q I h =>
  wpAny_Dict_empty ⟨.ref s.heap.objs.size, _, I.laid (a := s.heap.objs.size) (o := .dK []) (t' := s.toks) (fun _ _ q => Heap.get?_push_of_some _ q) (Nat.le_refl _) (dk_empty s.heap I.big), rfl, h _ (I.hok.fresh (Nat.le_refl _))⟩
end
structure M1 (X : Cx) (o : Expr) (m : Str) (apos : Pos) (e : Expr) (cpos : Pos) : Prop where
  base : attributeBase o m X.env (eval o X.env) = eval o X.env
  few : ((backTo cpos (starEach [e] X.env)).all (fun x => !x.1) && (backToKw cpos (keywordEach [] X.env)).all (fun x => x.1.isSome)
    && decide (([e] : List Expr).length + ([] : List Keyword).length + (if ([] : List Keyword).isEmpty then 0 else 1) < 30)) = true
  line : (apos.endLine == cpos.line) = true
  trees : backTo cpos (starEach [e] X.env) = [(false, eval e X.env)]
structure M2 (X : Cx) (o : Expr) (m : Str) (apos : Pos) (e f : Expr) (cpos : Pos) : Prop where
  base : attributeBase o m X.env (eval o X.env) = eval o X.env
  few : ((backTo cpos (starEach [e, f] X.env)).all (fun x => !x.1) && (backToKw cpos (keywordEach [] X.env)).all (fun x => x.1.isSome)
    && decide (([e, f] : List Expr).length + ([] : List Keyword).length + (if ([] : List Keyword).isEmpty then 0 else 1) < 30)) = true
  line : (apos.endLine == cpos.line) = true
  trees : backTo cpos (starEach [e, f] X.env) = [(false, eval e X.env), (false, eval f X.env)]
section
variable {X : Cx} {pins : List (Addr × Obj)} {σ : St} {H : Hp} {s : Shared} {a : Addr} {y d : V} {u r : Value} {o : Option V} {A : Around} {E : Value → Shared → Prop}
end
section
variable {X : Cx} {o e f : Expr} {apos cpos : Pos} {td ty tx : TE}
end
section
variable {X : Cx} {pins : List (Addr × Obj)} {σ : St} {H : Hp} {s : Shared} {a : Addr} {kvs : List (Key × V)} {A : Around} {E : Value → Shared → Prop}
end
section
variable {X : Cx} {pins : List (Addr × Obj)} {σ : St} {H : Hp} {s : Shared} {a : Addr} {y : V} {u : Value} {A : Around} {E : Value → Shared → Prop}
end
end L2
set_option Elab.async false
set_option linter.all false
set_option maxRecDepth 100000
set_option maxHeartbeats 4000000
namespace L2
open PySem PySem.Spec PyProof.Rows
section
variable {X : Cx}
theorem op_is_bl : OpR X (compareOp .Is) (fun x y H Q => ∃ i j, x = .bl i ∧ y = .bl j ∧ Q (.bl (i == j)) H) := by
  intro pins s σ H x y v u Q I rx ry h
  obtain ⟨i, j, rfl, rfl, q⟩ := h
  cases rx
  cases ry
  exact is_bool (fin_bl I q rfl)
theorem op_isnot_bl : OpR X (compareOp .IsNot) (fun x y H Q => ∃ i j, x = .bl i ∧ y = .bl j ∧ Q (.bl (i != j)) H) := by
  intro pins s σ H x y v u Q I rx ry h
  obtain ⟨i, j, rfl, rfl, q⟩ := h
  cases rx
  cases ry
  exact isnot_bool (fin_bl I q rfl)
theorem op_le_str : OpR X (compareOp .LtE) (fun x y H Q => ∃ i j, x = .str i ∧ y = .str j ∧ Q (.bl (!decide (j.cps.toList < i.cps.toList))) H) := by
  intro pins s σ H x y v u Q I rx ry h
  obtain ⟨i, j, rfl, rfl, q⟩ := h
  obtain ⟨t, rfl⟩ := rx
  obtain ⟨t', rfl⟩ := ry
  exact PySem.P.le_str (fin_bl I q rfl)
def cutL {α : Type} (xs : List α) (lo hi : Option Int) : List α := (xs.drop (HT.sIx xs.length 0 lo)).take (HT.sIx xs.length xs.length hi - HT.sIx xs.length 0 lo)
def rSlS : V → Option Int → Option Int → Hp → VK → Prop := fun x lo hi H Q => ∃ z, x = .str z ∧ z.length ≤ sizeLine ∧ Q (.str ⟨(cutL z.cps.toList lo hi).toArray⟩) H
theorem strIdx (lo hi : Option Int) (n : Nat) : Builtin.Str.strSliceIndices lo hi 1 n = (List.range (HT.sIx n n hi - HT.sIx n 0 lo)).map fun k => HT.sIx n 0 lo + k := by
  have e1 : Builtin.Str.strSliceIndices lo hi 1 n = sliceRange ((HT.sIx n 0 lo : Nat) : Int) ((HT.sIx n n hi : Nat) : Int) 1 := by
    unfold Builtin.Str.strSliceIndices
    dsimp only
    congr 1
    · cases lo with
      | none => simp [HT.sIx]
      | some i => simp only [HT.sIx, show (1 : Int) > 0 by decide, if_true]; split <;> omega
    · cases hi with
      | none => simp [HT.sIx]
      | some i => simp only [HT.sIx, show (1 : Int) > 0 by decide, if_true]; split <;> omega
  rw [e1]
  exact sliceRange_one _ _
theorem pickS {α : Type} (xs : List α) (a : Nat) : ∀ k, a + k ≤ xs.length → ((List.range k).map fun j => a + j).filterMap (xs[·]?) = (xs.drop a).take k
  | 0, _ => by simp
  | k + 1, h => by
    rw [List.range_succ, List.map_append, List.filterMap_append, pickS xs a k (by omega)]
    have hk : a + k < xs.length := by omega
    rw [List.take_succ]
    congr 1
    simp [List.getElem?_drop, hk]
theorem sl_str : SlR X rSlS := by
  intro pins s σ H x v vl vu lo hi sl Q I rx hs pl pu h
  obtain ⟨z, rfl, hz, q⟩ := h
  obtain ⟨t, rfl⟩ := rx
  refine ⟨"str", _, PyProof.Rows.slot_str_getitem.lookup, typeIs_str s z t, ?_⟩
  have hl : z.cps.toList.length = z.length := by simp [Str.length]
  have fin : ∀ (l u : Option (Int × Tok)), vl = partValue l → vu = partValue u → l.map (·.1) = lo → u.map (·.1) = hi → wpAny (model X.prog X.w) X.A (getItem (.str z t) (.ref sl)) (EP X pins σ Q) X.xe s := by
    intro l u e1 e2 e3 e4
    subst e1 e2
    refine wpAny_getItem_str_slice (l := l) (u := u) (st := none) hs rfl ?_
    have hp : slicePicked z l u none = (List.range (HT.sIx z.length z.length hi - HT.sIx z.length 0 lo)).map fun k => HT.sIx z.length 0 lo + k := by
      unfold slicePicked
      rw [e3, e4]
      exact strIdx lo hi z.length
    have hb1 : HT.sIx z.length z.length hi ≤ z.length := HT.sIx_le _ _ (Nat.le_refl _) _
    have hb2 : HT.sIx z.length 0 lo ≤ z.length := HT.sIx_le _ _ (Nat.zero_le _) _
    unfold sliceMade
    split
    · rename_i c
      simp only [Bool.and_eq_true, beq_iff_eq] at c
      obtain ⟨_, c⟩ := c
      rw [hp, List.length_map, List.length_range] at c
      have e : (⟨(cutL z.cps.toList lo hi).toArray⟩ : Str) = z := by
        unfold cutL
        rw [hl]
        have z1 : HT.sIx z.length 0 lo = 0 := by omega
        have z2 : HT.sIx z.length z.length hi = z.length := by omega
        rw [z1, z2, List.drop_zero, Nat.sub_zero, List.take_of_length_le (by omega)]
      rw [e] at q
      exact ⟨.str z, H, I, ⟨_, rfl⟩, q⟩
    · have e : (⟨(cutL z.cps.toList lo hi).toArray⟩ : Str) = ⟨((slicePicked z l u none).filterMap (z.cps[·]?)).toArray⟩ := by
        rw [hp]
        unfold cutL
        rw [hl]
        by_cases hc : HT.sIx z.length 0 lo ≤ HT.sIx z.length z.length hi
        · rw [← pickS z.cps.toList _ _ (by omega)]
          simp only [Array.getElem?_toList]
        · rw [show HT.sIx z.length z.length hi - HT.sIx z.length 0 lo = 0 by omega]
          simp
      rw [e] at q
      refine ⟨?_, .str _, H, I.tok _, ⟨_, rfl⟩, q⟩
      rw [← e]
      show (cutL z.cps.toList lo hi).toArray.size ≤ sizeLine
      rw [List.size_toArray]
      unfold cutL
      rw [List.length_take, List.length_drop, hl]
      omega
  cases pl with
  | none => cases pu with
    | none => exact fin none none rfl rfl rfl rfl
    | int j t' => exact fin none (some (j, t')) rfl rfl rfl rfl
  | int i t' => cases pu with
    | none => exact fin (some (i, t')) none rfl rfl rfl rfl
    | int j t'' => exact fin (some (i, t')) (some (j, t'')) rfl rfl rfl rfl
theorem call_isinst : CallR X (.builtin "isinstance") (fun xs H Q => ∃ x T t b, xs = [x, .ty T] ∧ TyOf X.K H x t ∧ PySem.W.kitOne X.K t (.type T) = some b ∧ Q (.bl b) H) := by
  intro pins s σ H xs us Q I r h
  obtain ⟨x, T, t, b, rfl, ty, e, q⟩ := h
  obtain ⟨u, w', rfl, rx, rt⟩ := vals2 r
  cases rt
  exact isinst_ok I rx ty e fun tk => ⟨.bl b, H, I.tok tk, rfl, q⟩
theorem range_all_bl (bs : List Bool) : ((List.range bs.length).all fun i => (bs[i]?).getD true) = bs.all id := by
  have e : (List.range bs.length).map (fun i => (bs[i]?).getD true) = bs := by
    apply List.ext_getElem (by simp)
    intro i h1 h2
    simp [h2]
  have f : ((List.range bs.length).map fun i => (bs[i]?).getD true).all id = bs.all id := by rw [e]
  rw [← f, List.all_map]
  rfl
theorem call_all_bl (hc : X.calm = true) : CallR X (.builtin "all") (fun xs H Q => ∃ (p : Addr) (bs : List Bool), xs = [.ref p] ∧ SqL X.K H p (bs.map V.bl) ∧ Q (.bl (bs.all id)) H) := by
  intro pins s σ H xs us Q I r h
  obtain ⟨p, bs, rfl, hq, q⟩ := h
  obtain ⟨u, rfl, rx⟩ := vals1 r
  cases rx
  obtain ⟨its, r', pl, hz⟩ := I.list hq
  have hl := r'.length
  rw [List.length_map] at hl
  have hlt : p < s.heap.objs.size := by obtain ⟨_, e, _⟩ := pl.isList; exact Heap.lt_size e
  refine call_all_walk (wpAny_pyIter_list pl.isList ?_)
  refine ⟨s.heap.objs.size, [s.heap.objs.size, p], [s.heap.objs.size], its.toArray.size, _, _, fun i => (bs[i]?).getD true, rfl, Walks.list (A := X.A.in1) (I.ok.hd hc) _ p (Nat.ne_of_lt hlt) its.toArray,
    ⟨⟨_, Heap.get?_push_size _ rfl, rfl, rfl⟩, pl.isList.push _⟩, fun i v s' Q' E' hP hQ => ?_, fun h' tk hk => ?_⟩
  · have hP' : its[i]? = some v := by simpa using hP
    have hi : i < bs.length := by
      have := (List.getElem?_eq_some_iff.mp hP').1
      omega
    obtain ⟨u, e, ru⟩ := r'.get (i := i) (x := .bl bs[i]) (by simp [hi])
    rw [hP'] at e
    cases e
    cases ru
    simp only [List.getElem?_eq_getElem hi, Option.getD_some] at hQ
    exact wpAny_truthy_bool hQ
  · have e : ((List.range its.toArray.size).all fun i => (bs[i]?).getD true) = bs.all id := by
      rw [List.size_toArray, ← hl]; exact range_all_bl bs
    rw [e]
    exact ⟨.bl _, H, I.kept fun b x e => hk b x (fun hm => by rw [List.mem_singleton.mp hm] at e; exact Nat.lt_irrefl _ (Heap.lt_size e)) (Heap.get?_push_of_some _ e), rfl, q⟩
def signsV (x : Str) : List V := x.cps.toList.map fun c => V.str ⟨#[c]⟩
theorem signs_vals {x : Str} {acc : Array Value} (h : ItemsOf (SignAt x) acc x.cps.size) : Vals (signsV x) acc.toList := by
  obtain ⟨hs, ha⟩ := h
  have key : ∀ (cs : List Nat) (us : List Value), us.length = cs.length → (∀ (j : Nat) (v : Value), us[j]? = some v → ∃ c u, cs[j]? = some c ∧ v = .str ⟨#[c]⟩ u) → Vals (cs.map fun c => V.str ⟨#[c]⟩) us := by
    intro cs
    induction cs with
    | nil => intro us hl _; cases us with | nil => exact .nil | cons _ _ => simp at hl
    | cons c cs ih =>
      intro us hl hp
      cases us with
      | nil => simp at hl
      | cons u us =>
        refine .cons ?_ (ih us (by simpa using hl) fun j v e => hp (j + 1) v (by simpa using e))
        obtain ⟨c', t, e1, e2⟩ := hp 0 u rfl
        simp at e1
        subst e1
        exact ⟨t, e2⟩
  refine key _ _ (by simp [hs]) fun j v e => ?_
  obtain ⟨c, u, e1, e2⟩ := ha j v (by simpa using e)
  exact ⟨c, u, by simpa using e1, e2⟩
theorem call_list_s (hc : X.calm = true) : CallR X (.type "list") (fun xs H Q => ∃ z, xs = [.str z] ∧ z.length ≤ sizeLine ∧ ∀ l, H l = none → Q (.ref l) (upd H l (.lst (signsV z)))) := by
  intro pins s σ H xs us Q I r h
  obtain ⟨z, rfl, hz, q⟩ := h
  obtain ⟨u, rfl, t, rfl⟩ := vals1 r
  refine PySem.call_list_str (I.ok.hd hc) z t (fun h' tk acc c kp e hi => ?_) (by simpa [Str.length] using hz)
  refine ⟨.ref s.heap.objs.size, _, I.laid (t' := tk) kp (Nat.le_refl _) (show ObjOk X.prog X.w _ h' _ (.lst (signsV z)) from ⟨by simpa [signsV, Str.length] using hz, acc.toList, c, signs_vals hi, by simpa using e⟩), rfl, q _ (I.hok.fresh (Nat.le_refl _))⟩
theorem call_tuple_s (hc : X.calm = true) : CallR X (.type "tuple") (fun xs H Q => ∃ z, xs = [.str z] ∧ z.length ≤ sizeLine ∧ ∀ l, H l = none → Q (.ref l) (upd H l (.tup (signsV z)))) := by
  intro pins s σ H xs us Q I r h
  obtain ⟨z, rfl, hz, q⟩ := h
  obtain ⟨u, rfl, t, rfl⟩ := vals1 r
  refine PySem.call_tuple_str (I.ok.hd hc) z t (fun h' tk acc kp hi => ?_) (by simpa [Str.length] using hz)
  have I1 : Inv X pins σ H { s with heap := h', toks := tk } := I.kept kp
  have I2 : Inv X pins σ (upd H h'.objs.size (.tup (signsV z))) { s with heap := h'.push { cls := .type "tuple", data := .seq acc }, toks := tk } :=
    I1.laid (t' := tk) (fun b o e => Heap.get?_push_of_some _ e) (Nat.le_refl _) (show ObjOk X.prog X.w _ _ _ (.tup (signsV z)) from ⟨by simpa [signsV, Str.length] using hz, acc.toList, signs_vals hi, by simpa using IsTup.new h' acc⟩)
  exact ⟨.ref h'.objs.size, _, I2, rfl, q _ (I1.hok.fresh (Nat.le_refl _))⟩
end
def Its (x : Str) : It := ⟨fun i _ => i < x.cps.size, fun i H v H' => H' = H ∧ ∃ c, x.cps.toList[i]? = some c ∧ v = .str ⟨#[c]⟩, fun i _ => i = x.cps.size⟩
theorem turn_str {P : Program} {w : World} {K : PySem.W.Frag} {tg : Expr} (it : Addr) (x : Str) (t : Tok) (ty : String)
    (hty : ["enumerate", "zip", "dict_itemiterator", "dict_reverseitemiterator", "odict_iterator", "itertools.zip_longest", "itertools.pairwise"].contains ty = false)
    (W : ∀ A' : Around, A'.handled = none → Walks P w A' it [it] [it] x.cps.size (SignAt x) (fun i h => h.IsStrIter it ty x t i))
    (slf : ∀ (A : Around) (i : Nat) (s : Shared) (Q : Value → Shared → Prop) (E : Value → Shared → Prop), s.heap.IsStrIter it ty x t i → Q (.ref it) s → wpAny (model P w) A (pyIter (.ref it)) Q E s) :
    Turn P w K tg (Its x) [it] it (fun i h => h.IsStrIter it ty x t i) where
  mem := by simp
  obj := fun i h st b hb => by
    have e : b = it := by simpa using hb
    subst e
    obtain ⟨o, e, c, d⟩ := st
    exact ⟨o, e, fun v z => by rw [d] at z; cases z⟩
  keep := fun i h h' st k => by
    obtain ⟨o, e, c, d⟩ := st
    exact ⟨o, k it (by simp) o e, c, d⟩
  item := by
    intro X hP hw hK hc i pins s σ H E I hf st hg
    subst hP hw hK
    obtain ⟨f0, f1, f2, f3, f4, f5⟩ := hf it (by simp)
    refine (W X.A (I.ok.hd hc)).item i s _ _ hg st fun v h' tk hv st' kk => ?_
    obtain ⟨c, u, hx, rfl⟩ := hv
    have I1 : Inv X pins σ H { s with heap := h', toks := tk } := I.turned (fun b o hb e => kk b o (by simpa using hb) e) f0 f1 f3 f4 f5
    obtain ⟨o, e, oc, d⟩ := id st'
    exact ⟨_, rfl, go_of (s := { s with heap := h', toks := tk }) e oc d hty ⟨.str ⟨#[c]⟩, H, I1, ⟨_, rfl⟩, ⟨rfl, c, by simpa using hx, rfl⟩, st', fun b hb => (hf b hb).1⟩⟩
  done := by
    intro X hP hw hK hc i pins s σ H E I hf st hg
    subst hP hw hK
    obtain ⟨f0, f1, f2, f3, f4, f5⟩ := hf it (by simp)
    have hg' : i = x.cps.size := hg
    subst hg'
    exact (W X.A (I.ok.hd hc)).done s _ _ st fun h' tk eb => ⟨rfl, I.turned (fun b o hb e => eb b o (by simpa using hb) e) f0 f1 f3 f4 f5⟩
  self := slf
section
variable {X : Cx} {tg : Expr}
def iStr (tl : TE) : TI := fun σ H R => tl σ H fun x H1 => ∃ z, x = .str z ∧ R (Its z) H1
theorem pi_str {l : Expr} {tl : TE} (hl : PE X l tl) : PI X tg l (iStr tl) := by
  intro pins s σ H R I h
  refine thn (hl pins s σ H _ I h) fun v s1 ⟨x, H1, I1, r1, q1⟩ => ?_
  obtain ⟨z, e, q⟩ := q1
  subst e
  obtain ⟨t, rfl⟩ := r1
  have fp : ∀ b ∈ [s1.heap.objs.size], FpOk X pins H1 b := fun b hb => by
    have e : b = s1.heap.objs.size := by simpa using hb
    subst e
    exact I1.fpOk (Nat.le_refl _) (I1.hok.fresh (Nat.le_refl _))
  cases ha : z.cps.all (· < 128)
  · exact wpAny_pyIter_wide ha ⟨s1.heap.objs.size, [s1.heap.objs.size], _, _, H1, rfl, I1.kept (t' := s1.toks) fun b o e => Heap.get?_push_of_some _ e,
      turn_str _ z t "str_iterator" (by decide) (fun A' hA => Walks.strWide hA _ z t) (fun _ _ _ _ _ st h => wpAny_pyIter_striter_wide st h), ⟨_, Heap.get?_push_size _ rfl, rfl, rfl⟩, fp, q⟩
  · exact wpAny_pyIter_ascii ha ⟨s1.heap.objs.size, [s1.heap.objs.size], _, _, H1, rfl, I1.kept (t' := s1.toks) fun b o e => Heap.get?_push_of_some _ e,
      turn_str _ z t "str_ascii_iterator" (by decide) (fun A' hA => Walks.strAscii hA _ z t) (fun _ _ _ _ _ st h => wpAny_pyIter_striter_ascii st h), ⟨_, Heap.get?_push_size _ rfl, rfl, rfl⟩, fp, q⟩
end
end L2
set_option Elab.async false
set_option linter.all false
set_option maxRecDepth 100000
set_option maxHeartbeats 4000000
namespace L2
open PySem PySem.Spec PyProof.Rows
def cxC (X : Cx) (N : List Str) (scope : Scope) (cl : List (Str × Addr)) (C : Addr) (fp : List Addr) (s : Shared) (H : Hp) : Cx where
  prog := X.prog
  w := X.w
  K := X.K
  mg := X.mg
  base := X.base
  A := X.A
  N := N
  s₀ := s
  H₀ := H
  env := compEnvC scope cl C X.env
  outer := X.stack
  stack := X.stack
  ex := fp
  fn := fun _ => false
  calm := X.calm
  pn := []
  xe := fun _ _ => False
structure CSc (X : Cx) (scope : Scope) (cl : List (Str × Addr)) (ts fr : List Str) (ix : List Nat) : Prop where
  clos : closureFor scope X.env = pure cl
  kind : scope.kind = .function
  nocell : ∀ y ∈ scope.names, y.2 ≠ .cell
  names : ∀ y ∈ scope.names, y.2 = .local → scope.names.lookup y.1 = some .local
  sub : ∀ y c, cl.lookup y = some c → X.env.cells.lookup y = some c
  has : ∀ y, ((relabel scope X.env).names.lookup y = some .cell ∨ (relabel scope X.env).names.lookup y = some .free) → ∃ c, cl.lookup y = some c
  nofn : ∀ y ∈ ts, (relabel scope X.env).names.lookup y = some .local
  len : ix.length = fr.length
  vis : ∀ (j : Nat) (y : Str), fr[j]? = some y → ∃ i : Nat, ix[j]? = some i ∧ X.N[i]? = some y ∧ (X.env.kindOf y = some .cell ∨ X.env.kindOf y = some .free) ∧ ((relabel scope X.env).names.lookup y = some .cell ∨ (relabel scope X.env).names.lookup y = some .free)
def Ext (a b : St) : Prop := b.length = a.length ∧ ∀ (i : Nat) v, a[i]? = some (some v) → b[i]? = some (some v)
def compSt (nt : Nat) (ix : List Nat) (σ : St) : St := List.replicate nt none ++ ix.map fun i => (σ[i]?).join
def compW (J : It) (s0 : St) (g : TG) (te : TE) (Q : VK) (H1 : Hp) : Prop := ∃ W : Nat → Nat → List V → Hp → Prop, (∃ m, W 0 m [] H1) ∧ ∀ i m ys H, W i m ys H →
  (J.stop i H ∧ ∀ p, H p = none → Q (.ref p) (upd H p (.lst ys))) ∨
  (J.go i H ∧ ys.length < sizeLine ∧ ∀ x H', J.yld i H x H' → g x s0 H' fun σ2 H2 => Ext s0 σ2 ∧ te σ2 H2 fun y H3 => ∃ m', m' < m ∧ W (i + 1) m' (ys ++ [y]) H3)
def tComp (wi : TI) (s0 : St → St) (g : TG) (te : TE) : TE := fun σ H Q => wi σ H fun J H1 => compW J (s0 σ) g te Q H1
theorem compLoop1 {prog : Program} {w : World} {A : Around} {R : Result → Shared → Prop} {s : Shared} {elt target iter : Expr} {scope : Scope} {pos : Pos} {it acc : Value} {env : Env} (J : Nat → Shared → Prop)
    (step : ∀ m z, J m z → wpAny (model prog w) A (pyNext it) (fun got z1 => match got with
      | none => R (.ok .next) z1
      | some v => wpAny (model prog w) A (letOwnedTupleGo target it v) (fun _ z2 => wpAny (model prog w) A (assign target env v) (fun _ z3 => wpAny (model prog w) A (eval elt env) (fun x z4 =>
          wpAny (model prog w) A (call (.builtin "list.append") [acc, x]) (fun _ z5 => ∃ m', m' < m ∧ J m' z5) (fun _ _ => False) z4)
          (fun _ _ => False) z3) (fun _ _ => False) z2) (fun _ _ => False) z1) (fun _ _ => False) z)
    (m : Nat) (j0 : J m s) : codeAny (model prog w) A (.compLoop (.ListComp elt [⟨target, iter, [], 0⟩] scope pos) 0 it acc env) R s := by
  refine codeAny_loop rfl J (fun m z hj => (wpAny_noted ?_ : wpAny _ _ ((compTurn (.ListComp elt [⟨target, iter, [], 0⟩] scope pos) 0 it acc env).onRaise _) _ _ z)) m j0
  rw [compTurn_list1]
  refine wpAny_bind (wpAny_standAt (wpAny_bind (wpAny_mono (step m z hj) (fun got z1 h1 => ?_) fun _ _ no => no.elim)))
  match got, h1 with
  | none, h1 => exact wpAny_pure h1
  | some v, h1 =>
    refine wpAny_bind (wpAny_mono h1 (fun _ z2 h2 => wpAny_bind (wpAny_mono h2 (fun _ z3 h3 => ?_) fun _ _ no => no.elim)) fun _ _ no => no.elim)
    refine wpAny_bind (wpAny_bind (wpAny_mono h3 (fun x z4 h4 => ?_) fun _ _ no => no.elim))
    exact wpAny_bind (wpAny_mono h4 (fun _ z5 h5 => wpAny_pure (wpAny_pure ⟨rfl, h5⟩)) fun _ _ no => no.elim)
section
variable {X : Cx}
theorem cxC_ok {pins : List (Addr × Obj)} {σ : St} {H : Hp} {s : Shared} {scope : Scope} {cl : List (Str × Addr)} {ts fr : List Str} {ix : List Nat} {C : Addr} {fp : List Addr} (S : CSc X scope cl ts fr ix) (I : Inv X pins σ H s)
    (hf : ∀ b ∈ fp, FpOk X pins H b) (hb : ∀ b ∈ fp, b < s.heap.objs.size) (hC : s.heap.objs.size ≤ C) : (cxC X (ts ++ fr) scope cl C fp s H).Ok where
  mod := I.ok.mod
  kind := S.kind
  glob := I.ok.glob
  blt := I.ok.blt
  above := hC
  inj := fun x y c h1 h2 => I.ok.inj x y c (S.sub x c h1) (S.sub y c h2)
  has := S.has
  cab := fun _ _ z => nomatch z
  hd := I.ok.hd
  frames := I.ok.frames
  stk := .inl rfl
  exf := fun b hb' => ⟨Nat.ne_of_lt (Nat.lt_of_lt_of_le (hb b hb') hC), fun x c e => (hf b hb').2.2.2.2.1 x c (S.sub x c e)⟩
  bs := fun b o e => I.bs b o e
  bsz := Nat.le_trans I.ok.bsz I.sz
  noex := fun b o e hb' => by
    rcases (hf b hb').2.2.2.1 with z | z
    · exact I.ok.noex b o e z
    · exact absurd (Nat.lt_of_lt_of_le (Heap.lt_size e) (Nat.le_trans I.ok.bsz z)) (Nat.lt_irrefl _)
  exfs := fun b hb' z => by
    rcases List.mem_cons.mp (I.stkSub b z) with e | e
    · exact (hf b hb').2.1 e
    · exact (hf b hb').2.2.1 e
  funs := I.stack
  frf := fun b hb' => I.stkFree b hb'
theorem compSt_len {nt : Nat} {ix : List Nat} {σ : St} : (compSt nt ix σ).length = nt + ix.length := by
  unfold compSt; rw [List.length_append, List.length_replicate, List.length_map]
theorem cxC_inv {pins : List (Addr × Obj)} {σ : St} {H : Hp} {s s4 : Shared} {scope : Scope} {cl : List (Str × Addr)} {ts fr : List Str} {ix : List Nat} {C : Addr} {fp : List Addr} {m : Str → Option Value} (S : CSc X scope cl ts fr ix) (I : Inv X pins σ H s)
    (hf : ∀ b ∈ fp, FpOk X pins H b) (hb : ∀ b ∈ fp, b < s.heap.objs.size) (hC : s.heap.objs.size ≤ C)
    (k : ∀ b o, s.heap.get? b = some o → s4.heap.get? b = some o) (hn : s4.heap.Ns C m) (ho : s4.os = s.os) (hg : s4.gens = s.gens) :
    Inv (cxC X (ts ++ fr) scope cl C fp s H) [] (compSt ts.length ix σ) H s4 where
  ok := cxC_ok S I hf hb hC
  os := ho
  bare := by rw [hg]; exact I.bare
  base := Un.kept k
  loc := by
    refine ⟨m, hn, fun i x v e1 e2 e3 => ?_⟩
    have e1 : (ts ++ fr)[i]? = some x := e1
    by_cases hi : i < ts.length
    · unfold compSt at e2
      rw [List.getElem?_append_left (by simpa using hi), List.getElem?_replicate, if_pos hi] at e2
      cases e2
    · rw [List.getElem?_append_right (by omega)] at e1
      unfold compSt at e2
      rw [List.getElem?_append_right (by simpa using hi), List.length_replicate, List.getElem?_map] at e2
      obtain ⟨j, h1, h2, h3, h4⟩ := S.vis _ x e1
      rw [h1] at e2
      have e2' : (σ[j]?).join = some v := Option.some.inj e2
      have e5 : σ[j]? = some (some v) := by
        cases q : σ[j]? with
        | none => rw [q] at e2'; cases e2'
        | some o => rw [q] at e2'; simp at e2'; rw [e2']
      obtain ⟨m0, _, hl⟩ := I.loc
      have vis : Vis X.env.scope x := h3.elim (fun z => .inr (.inl z)) fun z => .inr (.inr z)
      obtain ⟨u, ru, l⟩ := hl j x v h2 e5 vis
      refine ⟨u, ru, ?_⟩
      rcases l with ⟨z, _⟩ | ⟨_, c, hc, hcell⟩
      · rcases h3 with h3 | h3 <;> rw [h3] at z <;> cases z
      · obtain ⟨c', hc'⟩ := S.has x h4
        have e6 : c' = c := Option.some.inj ((S.sub x c' hc').symm.trans hc)
        subst e6
        obtain ⟨o, ho, hd⟩ := hcell
        exact .inr ⟨h4, c', hc', o, k _ _ ho, hd⟩
  cell := fun x c e => by
    obtain ⟨v, o, ho, hd⟩ := I.cell x c (S.sub x c e)
    exact ⟨v, o, k _ _ ho, hd⟩
  free := I.hok.fresh hC
  freeC := fun x c e => I.freeC x c (S.sub x c e)
  pin := fun p hp => absurd (show p ∈ ([] : List (Addr × Obj)) from hp) (by simp)
  hok := I.hok.kept k
  len := by
    rw [compSt_len]
    show _ = (ts ++ fr).length
    rw [List.length_append, S.len]
theorem Inv.unpinned' {pins : List (Addr × Obj)} {σ : St} {H : Hp} {s : Shared} (I : Inv X pins σ H s) : Inv X [] σ H s := I.pins_of fun _ hp => nomatch hp
theorem comp_back {pins : List (Addr × Obj)} {σ σ' : St} {H H' : Hp} {s s' : Shared} {scope : Scope} {cl : List (Str × Addr)} {N : List Str} {C acc : Addr} {fp : List Addr} {h' : Heap} {ys : List V} {its : List Value} {n : Nat} (I : Inv X pins σ H s)
    (hf : ∀ b ∈ fp, FpOk X pins H b) (hC : s.heap.objs.size ≤ C) (hacc : s.heap.objs.size ≤ acc) (hCa : C ≠ acc)
    (J : Inv (cxC X N scope cl C fp s H) [] σ' H' s') (hn : H' acc = none) (ha : s'.heap.get? acc = some { cls := .type "list", data := .seq its.toArray n }) (rv : Vals ys its) (hz : ys.length ≤ sizeLine) (sb : Heap.SameBut C s'.heap h') :
    Inv X pins σ (upd H' acc (.lst ys)) { s' with heap := h' } := by
  have k : ∀ b o, b ≠ C → s'.heap.get? b = some o → h'.get? b = some o := fun b o hb e => sb.extBut b o hb e
  have old : ∀ b o, s.heap.get? b = some o → b ≠ C ∧ b ≠ acc := fun b o e => ⟨Nat.ne_of_lt (Nat.lt_of_lt_of_le (Heap.lt_size e) hC), Nat.ne_of_lt (Nat.lt_of_lt_of_le (Heap.lt_size e) hacc)⟩
  have u0 : Un (frs X.stack) fp H H' s.heap s'.heap := J.base
  have fC : H' C = none := J.free
  have u : Un (frs X.stack) fp H (upd H' acc (.lst ys)) s.heap h' := by
    refine ⟨fun b o e n' hb hx => k b o (old b o e).1 (u0.keep b o e n' hb hx), fun b o e n' hb hx => ?_, fun b o e n' hx => ?_, fun b o e hx => ?_, fun b xs e => ?_, fun b o v e => ?_, fun b ps e => ?_⟩
    · obtain ⟨sl, e1⟩ := u0.slot b o e n' hb hx
      exact ⟨sl, k b _ (old b o e).1 e1⟩
    · rw [upd_ne (old b o e).2]; exact u0.free b o e n' hx
    · obtain ⟨o', e1⟩ := u0.there b o e hx
      exact ⟨o', k b _ (old b o e).1 e1⟩
    · rw [upd_ne (ne_of_none (u0.tups b xs e) hn)]; exact u0.tups b xs e
    · rw [upd_ne (ne_of_none (u0.frzs b o v e) hn)]; exact u0.frzs b o v e
    · obtain ⟨more, e1⟩ := u0.tbls b ps e
      exact ⟨more, by rw [upd_ne (ne_of_none e1 hn)]; exact e1⟩
  have hok : HOk X.prog X.w (upd H' acc (.lst ys)) h' := fun b o e => by
    by_cases hb : b = acc
    · subst hb; rw [upd_same] at e; cases e
      exact ⟨hz, its, n, rv, k _ _ (Ne.symm hCa) ha⟩
    · rw [upd_ne hb] at e
      refine (J.hok b o e).stay (fun c v hc q => k c v ?_ q) (fun c q => by rw [upd_ne (ne_of_none q hn)]; exact q) fun c xs q => by rw [upd_ne (ne_of_none q hn)]; exact q
      rcases hc with z | z
      · rw [z]; exact ne_of_none e fC
      · exact ne_of_none z fC
  have J' := I.call (g' := s'.gens) (t' := s'.toks) (d' := s'.drawn) (ch := fp) u hok J.bare fun b hb => ⟨(hf b hb).2.2.2.1, (hf b hb).2.1, (hf b hb).2.2.2.2.1, (hf b hb).2.2.2.2.2⟩
  have eo : s'.os = s.os := J.os
  obtain ⟨hp, g, d, t, o⟩ := s'
  have eo' : o = s.os := eo
  subst eo'
  exact J'
theorem pe_lcomp {elt tg iter : Expr} {scope : Scope} {pos : Pos} {cl : List (Str × Addr)} {ts fr : List Str} {ix : List Nat} {wi : TI} {g : TG} {te : TE} (hc : X.calm = true) (S : CSc X scope cl ts fr ix) (hi : PI X tg iter wi)
    (hg : ∀ C fp s H, PG (cxC X (ts ++ fr) scope cl C fp s H) tg g) (he : ∀ C fp s H, PE (cxC X (ts ++ fr) scope cl C fp s H) elt te)
    (hs : ∀ x, foldedSetIterable iter X.env x = pure x := by intro _; rfl) :
    PE X (.ListComp elt [⟨tg, iter, [], 0⟩] scope pos) (tComp wi (compSt ts.length ix) g te) := by
  intro pins s σ H Q I h
  rw [eval_ListComp]
  refine wpAny_comprehension_free (use := none) rfl hs S.clos S.kind S.names (thn (hi pins s σ H _ I h) fun v s1 h1 => thn h1 fun itv s2 h2 => ?_)
  obtain ⟨it, fp, tn, J, H2, e, I2, T, st2, f2, W, ⟨m0, w0⟩, turn⟩ := h2
  subst e
  have hob : ∀ b ∈ fp, b < s2.heap.objs.size := fun b hb => let ⟨o, e, _⟩ := T.obj _ _ st2 b hb; Heap.lt_size e
  refine wpAny_newObj_type (wpAny_newFunctionEnv S.nocell (by intro y hy; simp at hy) (fun h4 hns4 hsb4 => ?_) S.kind)
  dsimp only at hns4 hsb4 ⊢
  generalize hH2 : s2.heap.push { cls := .type "list", dict := none, data := .seq ([] : List Value).toArray } = G at hns4 hsb4 ⊢
  have hCs : G.objs.size = s2.heap.objs.size + 1 := by rw [← hH2, Heap.size_push]
  have hCle : s2.heap.objs.size ≤ G.objs.size := by omega
  have hne : G.objs.size ≠ s2.heap.objs.size := by omega
  have old : ∀ b o, s2.heap.get? b = some o → h4.get? b = some o := fun b o e => by
    have hlt := Heap.lt_size e
    exact hsb4.extBut b o (Nat.ne_of_lt (Nat.lt_of_lt_of_le hlt hCle)) (Heap.get?_push_of_some _ (hH2 ▸ Heap.get?_push_of_some _ e))
  have hacc : h4.get? s2.heap.objs.size = some { cls := .type "list", data := .seq ([] : List Value).toArray 0 } :=
    hsb4.extBut _ _ (Ne.symm hne) (Heap.get?_push_of_some _ (hH2 ▸ Heap.get?_push_size _ rfl))
  have K0 : Inv (cxC X (ts ++ fr) scope cl G.objs.size fp s2 H2) [] (compSt ts.length ix σ) H2 { s2 with heap := h4, toks := s2.toks + ([] : List (Str × Value)).length } :=
    cxC_inv S I2 f2 hob hCle old hns4 rfl rfl
  have st4 : tn 0 h4 := T.keep _ _ _ st2 fun b _ o e => old b o e
  have accF : s2.heap.objs.size ∉ fp := fun z => Nat.lt_irrefl _ (hob _ z)
  have stat : ∀ {H' : Hp}, (∀ b ∈ fp, H' b = none) → ∀ b ∈ fp, FpOk (cxC X (ts ++ fr) scope cl G.objs.size fp s2 H2) [] H' b := fun hn b hb =>
    ⟨hn b hb, fun z => by have h1 := hob b hb; have z' : b = G.objs.size := z; exact Nat.ne_of_lt (Nat.lt_of_lt_of_le h1 hCle) z', fun z => (cxC_ok S I2 f2 hob hCle).exfs b hb z, .inl hb, fun x c e => (f2 b hb).2.2.2.2.1 x c (S.sub x c e), fun p hp => absurd (show p ∈ ([] : List (Addr × Obj)) from hp) (by simp)⟩
  have statA : ∀ {H' : Hp}, H' s2.heap.objs.size = none → FpOk (cxC X (ts ++ fr) scope cl G.objs.size fp s2 H2) [] H' s2.heap.objs.size := fun hn =>
    ⟨hn, fun z => hne (show G.objs.size = s2.heap.objs.size from z.symm), fun z => by
      obtain ⟨_, o, ho, _⟩ := (cxC_ok S I2 f2 hob hCle).funs.mem z
      exact Nat.lt_irrefl _ (Heap.lt_size ho), .inr (Nat.le_refl _), fun x c e z => by
      obtain ⟨v, o, ho, _⟩ := I2.cell x c (S.sub x c e)
      rw [z] at ho
      exact Nat.lt_irrefl _ (Heap.lt_size ho), fun p hp => absurd (show p ∈ ([] : List (Addr × Obj)) from hp) (by simp)⟩
  have loop : ∀ s4 : Shared, s4 = { s2 with heap := h4, toks := s2.toks + ([] : List (Str × Value)).length } →
      codeAny (model X.prog X.w) X.A (.compLoop (.ListComp elt [⟨tg, iter, [], 0⟩] scope pos) 0 (.ref it) (.ref s2.heap.objs.size) (compEnvC scope cl G.objs.size X.env))
        (compPost (model X.prog X.w) X.A X.xe none (EP X pins σ Q) (.ref s2.heap.objs.size) G.objs.size) s4 := by
    rintro s4 rfl
    refine compLoop1 (fun n s' => ∃ i σ' H' ys its k, Inv (cxC X (ts ++ fr) scope cl G.objs.size fp s2 H2) [] σ' H' s' ∧ Ext (compSt ts.length ix σ) σ' ∧ tn i s'.heap ∧ (∀ b ∈ fp, H' b = none) ∧ H' s2.heap.objs.size = none ∧
      s'.heap.get? s2.heap.objs.size = some { cls := .type "list", data := .seq its.toArray k } ∧ Vals ys its ∧ ys.length ≤ sizeLine ∧ W i n ys H') ?_ m0
      ⟨0, _, H2, [], [], 0, K0, ⟨rfl, fun _ _ z => z⟩, st4, fun b hb => (f2 b hb).1, I2.hok.fresh (Nat.le_refl _), hacc, .nil, Nat.zero_le _, w0⟩
    rintro n s5 ⟨i, σ5, H5, ys, its, k5, I5, x5, st5, fr5, fa5, ac5, rv5, hz5, w5⟩
    have I5' : Inv (cxC X (ts ++ fr) scope cl G.objs.size fp s2 H2) [] (compSt ts.length ix σ) H5 s5 := I5.weak x5.1.symm x5.2
    rcases turn i n ys H5 w5 with ⟨stop, qn⟩ | ⟨go, hlt, step⟩
    · refine thn (T.done (cxC X (ts ++ fr) scope cl G.objs.size fp s2 H2) rfl rfl rfl hc i [(s2.heap.objs.size, { cls := .type "list", data := .seq its.toArray k5 })] s5 _ H5 _ (I5'.pins_of fun p hp => ?_) (fun b hb => ?_) st5 stop) fun r s6 ⟨hr, I6⟩ => ?_
      · have e : p = (s2.heap.objs.size, { cls := .type "list", data := .seq its.toArray k5 }) := by simpa using hp
        subst e
        obtain ⟨a0, a1, a2, _⟩ := statA fa5
        exact ⟨ac5, a0, a1, a2, fun v z => by cases z⟩
      · obtain ⟨b0, b1, b2, b3, b4, b5⟩ := stat fr5 b hb
        refine ⟨b0, b1, b2, b3, b4, fun p hp => ?_⟩
        have e : p = (s2.heap.objs.size, { cls := .type "list", data := .seq its.toArray k5 }) := by
          have hp' : p ∈ [(s2.heap.objs.size, _)] := hp
          simpa using hp'
        subst e
        exact fun z => accF (by have z' : s2.heap.objs.size = b := z; rw [z']; exact hb)
      · subst hr
        have e6 := (I6.pin (s2.heap.objs.size, { cls := .type "list", data := .seq its.toArray k5 }) (by show _ ∈ [] ++ [_]; simp)).1
        obtain ⟨m6, hn6, _⟩ := I6.loc
        exact ⟨m6, hn6, fun h' sb => ⟨.ref s2.heap.objs.size, _, comp_back I2 f2 hCle (Nat.le_refl _) hne I6.unpinned' fa5 e6 rv5 hz5 sb, rfl, qn _ fa5⟩⟩
    · refine thn (T.item (cxC X (ts ++ fr) scope cl G.objs.size fp s2 H2) rfl rfl rfl hc i [(s2.heap.objs.size, { cls := .type "list", data := .seq its.toArray k5 })] s5 _ H5 _ (I5'.pins_of fun p hp => ?_) (fun b hb => ?_) st5 go) fun r s6 ⟨u, hr, h6⟩ => ?_
      · have e : p = (s2.heap.objs.size, { cls := .type "list", data := .seq its.toArray k5 }) := by simpa using hp
        subst e
        obtain ⟨a0, a1, a2, _⟩ := statA fa5
        exact ⟨ac5, a0, a1, a2, fun v z => by cases z⟩
      · obtain ⟨b0, b1, b2, b3, b4, b5⟩ := stat fr5 b hb
        refine ⟨b0, b1, b2, b3, b4, fun p hp => ?_⟩
        have e : p = (s2.heap.objs.size, { cls := .type "list", data := .seq its.toArray k5 }) := by
          have hp' : p ∈ [(s2.heap.objs.size, _)] := hp
          simpa using hp'
        subst e
        exact fun z => accF (by have z' : s2.heap.objs.size = b := z; rw [z']; exact hb)
      · subst hr
        refine thn h6 fun _ s7 ⟨x, H7, I7, r7, y7, st7, fr7⟩ => ?_
        have fa7 : H7 s2.heap.objs.size = none := (I7.pin (s2.heap.objs.size, { cls := .type "list", data := .seq its.toArray k5 }) (by show _ ∈ [] ++ [_]; simp)).2.1
        have ac7 := (I7.pin (s2.heap.objs.size, { cls := .type "list", data := .seq its.toArray k5 }) (by show _ ∈ [] ++ [_]; simp)).1
        have I7' : Inv (cxC X (ts ++ fr) scope cl G.objs.size fp s2 H2) ([] ++ pinsAt (s2.heap.objs.size :: fp) s7.heap) (compSt ts.length ix σ) H7 s7 := by
          refine Inv.pinned I7.unpinned' (fun b hb => ?_) fun b hb => ?_
          · rcases List.mem_cons.mp hb with e | e
            · subst e; exact statA fa7
            · exact stat fr7 b e
          · rcases List.mem_cons.mp hb with e | e
            · subst e; exact ⟨_, ac7, fun v z => by cases z⟩
            · exact T.obj _ _ st7 b e
        refine thn (hg G.objs.size fp s2 H2 _ s7 _ H7 x u _ I7' r7 (step x H7 y7)) fun _ s8 ⟨σ8, H8, I8, x8, q8⟩ => ?_
        refine thn (he G.objs.size fp s2 H2 _ s8 _ H8 _ I8 q8) fun yv s9 ⟨y, H9, I9, r9, m', hm', w9⟩ => ?_
        obtain ⟨ac9, fa9, _⟩ := I9.pin (s2.heap.objs.size, { cls := .type "list", data := .seq its.toArray k5 }) (by show _ ∈ [] ++ ([] ++ _); simp; exact mem_pinsAt List.mem_cons_self ac7)
        have keep9 : ∀ b ∈ fp, ∀ o, s7.heap.get? b = some o → s9.heap.get? b = some o ∧ H9 b = none := fun b hb o e => by
          obtain ⟨z1, z2, _⟩ := I9.pin (b, o) (by show _ ∈ [] ++ ([] ++ _); simp; exact mem_pinsAt (List.mem_cons_of_mem _ hb) e)
          exact ⟨z1, z2⟩
        have hl := rv5.length
        refine call_meets F.slot_list_append ⟨_, ac9, rfl⟩ F.entry_list_append (F.args_list_append_2 _ _) (PySem.list_append s2.heap.objs.size its.toArray k5 yv (by rw [List.size_toArray]; omega)) ⟨ac9, ?_⟩
        have q := PySem.IsL.update ac9 (fun a => a.push yv)
        have qo : ∀ b o, b ≠ s2.heap.objs.size → s9.heap.get? b = some o → (s9.heap.update s2.heap.objs.size (Obj.mapSeq (fun a => a.push yv))).get? b = some o := fun b o hb e => (Heap.get?_update_other s9.heap _ (Ne.symm hb)).trans e
        have q' : ∃ k, (s9.heap.update s2.heap.objs.size (Obj.mapSeq (fun a => a.push yv))).get? s2.heap.objs.size = some { cls := .type "list", data := .seq (its ++ [yv]).toArray k } := ⟨_, by rw [q]; simp; rfl⟩
        obtain ⟨k9, q9⟩ := q'
        obtain ⟨a0, a1, a2, a3, a4, a5⟩ := statA (show H9 s2.heap.objs.size = none from fa9)
        refine ⟨m', hm', i + 1, σ8, H9, ys ++ [y], its ++ [yv], k9, (I9.unpinned').turned qo a0 a1 a3 a4 a5, x8, ?_, ?_, fa9, q9, rv5.append (.cons r9 .nil), ?_, w9⟩
        · refine T.keep _ _ _ st7 fun b hb o e => qo b o (fun z => accF (z ▸ hb)) (keep9 b hb o e).1
        · intro b hb
          obtain ⟨o, e, _⟩ := T.obj _ _ st7 b hb
          exact (keep9 b hb o e).2
        · rw [List.length_append, List.length_singleton]; omega
  exact codeAny_compStart_list (loop _ rfl) (T.self _ 0 _ _ _ st4 (loop _ rfl))
end
end L2
set_option Elab.async false
set_option linter.all false
set_option maxRecDepth 100000
set_option maxHeartbeats 4000000
namespace L2
open PySem PySem.Spec PyProof.Rows
section
variable {K : Type} [DecidableEq K]
def stepK (l : List K) (v : K) : List K := if v ∈ l then l else l ++ [v]
def dedup (l : List K) : List K := l.foldl stepK []
theorem stepK_mem (l : List K) (v k : K) : k ∈ stepK l v ↔ k ∈ l ∨ k = v := by
  unfold stepK; split
  · rename_i h
    constructor
    · exact .inl
    · rintro (z | rfl)
      · exact z
      · exact h
  · simp
theorem stepK_len (l : List K) (v : K) : (stepK l v).length = if v ∈ l then l.length else l.length + 1 := by
  unfold stepK; split <;> simp
theorem fold_nodup : ∀ (l acc : List K), acc.Nodup → (l.foldl stepK acc).Nodup ∧ (l.foldl stepK acc).length ≤ acc.length + l.length ∧ ((l.foldl stepK acc).length = acc.length + l.length ↔ (acc ++ l).Nodup)
  | [], acc, h => by simp [h]
  | v :: l, acc, h => by
    rw [List.foldl_cons]
    unfold stepK
    split
    · rename_i hv
      obtain ⟨h1, h2, h3⟩ := fold_nodup l acc h
      unfold stepK at h1 h2 h3
      refine ⟨h1, by rw [List.length_cons]; omega, ?_⟩
      constructor
      · intro e; rw [List.length_cons] at e; omega
      · intro e
        have := (List.nodup_append.mp e).2.2 v hv v List.mem_cons_self
        exact absurd rfl this
    · rename_i hv
      obtain ⟨h1, h2, h3⟩ := fold_nodup l (acc ++ [v]) (by
        rw [List.nodup_append]
        exact ⟨h, by simp, fun a ha b hb => by rw [List.mem_singleton] at hb; subst hb; rintro rfl; exact hv ha⟩)
      unfold stepK at h1 h2 h3
      rw [List.length_append, List.length_singleton] at h2 h3
      rw [List.append_assoc, List.singleton_append] at h3
      refine ⟨h1, by rw [List.length_cons]; omega, ?_⟩
      rw [← h3, List.length_cons]
      omega
theorem dedup_len (l : List K) : ((dedup l).length = l.length) ↔ l.Nodup := by
  have h := (fold_nodup l [] List.nodup_nil).2.2
  rw [List.length_nil, Nat.zero_add, List.nil_append] at h
  exact h
theorem dedup_map {J : Type} [DecidableEq J] (f : K → J) (hf : ∀ a b, f a = f b → a = b) (l : List K) : dedup (l.map f) = (dedup l).map f := by
  have key : ∀ (l acc : List K), (l.map f).foldl stepK (acc.map f) = (l.foldl stepK acc).map f := by
    intro l
    induction l with
    | nil => intro acc; rfl
    | cons v l ih =>
      intro acc
      rw [List.map_cons, List.foldl_cons, List.foldl_cons]
      have e : stepK (acc.map f) (f v) = (stepK acc v).map f := by
        unfold stepK
        by_cases hv : v ∈ acc
        · rw [if_pos hv, if_pos (List.mem_map_of_mem hv)]
        · rw [if_neg hv, if_neg (fun z => by
            obtain ⟨a, ha, e⟩ := List.mem_map.mp z
            rw [hf a v e] at ha; exact hv ha)]
          simp
      rw [e, ih]
  exact key l []
def metK (val : Nat → K) (i : Nat) : List K := dedup ((List.range i).map val)
theorem metK_succ (val : Nat → K) (i : Nat) : metK val (i + 1) = stepK (metK val i) (val i) := by
  unfold metK dedup; rw [List.range_succ, List.map_append, List.foldl_append]; rfl
theorem metK_le (val : Nat → K) : ∀ i, (metK val i).length ≤ i
  | 0 => by simp [metK, dedup]
  | i + 1 => by
    rw [metK_succ, stepK_len]
    have := metK_le val i
    split <;> omega
end
section
variable {prog : Program} {w : World} {K : Type} [DecidableEq K] {knd : KeyKind prog w K} {A : Around} {R : Result → Shared → Prop}
def Held (knd : KeyKind prog w K) (S : Addr) (val : Nat → K) (i : Nat) (h : Heap) : Prop := h.SetOf knd S (fun k => decide (k ∈ metK val i)) (metK val i).length
theorem Held.keep {S : Addr} {val : Nat → K} {i : Nat} {h h' : Heap} (x : Held knd S val i h) (k : ∀ o, h.get? S = some o → h'.get? S = some o) : Held knd S val i h' := by
  obtain ⟨o, es, ep, t, e, rest⟩ := x
  exact ⟨o, es, ep, t, k o e, rest⟩
theorem held_add {E : Value → Shared → Prop} {s : Shared} {S : Addr} {val : Nat → K} {i : Nat} {v : Value} {Q : Bool → Shared → Prop} (is : knd.is (val i) v = true) (sc : v.scannable = true) (few : i + 1 < scanBound) (x : Held knd S val i s.heap)
    (q : ∀ b h' tk, Held knd S val (i + 1) h' → (∀ c, c ≠ S → h'.get? c = s.heap.get? c) → Q b { s with heap := h', toks := tk }) : wpAny (model prog w) A (setAdd S v) Q E s := by
  have le := metK_le val i
  have key : ∀ k, (decide (k ∈ metK val i) || decide (k = val i)) = decide (k ∈ metK val (i + 1)) := fun k => by
    rw [metK_succ, Bool.eq_iff_iff]; simp [stepK_mem]
  have num : (if decide (val i ∈ metK val i) = true then (metK val i).length else (metK val i).length + 1) = (metK val (i + 1)).length := by
    rw [metK_succ, stepK_len]; simp
  have y : wpAny (model prog w) A (setAddHashed S v (knd.hash (val i))) Q E { s with toks := s.toks + 1 } :=
    wpAny_setAddHashed_of is sc x (by omega) fun h' same z => q _ h' _ (by unfold Held; rw [← num, ← funext key]; exact z) fun c hc => same.2 c hc
  exact wpAny_holding (wpAny_bind (knd.pyHash is y))
theorem gather_loop {I S : Addr} {fp wr : List Addr} {n : Nat} {P : Nat → Value → Prop} {St : Nat → Heap → Prop} (W : Walks prog w A.in1 I fp wr n P St) (apart : S ∉ fp) (val : Nat → K) (key : ∀ i v, P i v → knd.is (val i) v = true ∧ v.scannable = true) (few : n + 1 < scanBound) :
    ∀ (left i : Nat) (s : Shared), i + left = n → St i s.heap → Held knd S val i s.heap →
      (∀ h' tk, Held knd S val n h' → (∀ c o, c ≠ S → c ∉ wr → s.heap.get? c = some o → h'.get? c = some o) → R (.ok (.ret .none)) { s with heap := h', toks := tk }) →
      codeAny (model prog w) A (.builtin "set.update.loop" ⟨[.ref S, .ref I], []⟩) R s
  | 0, i, s, hi, st, x, fin => codeAny_builtin F.entry_set_update_loop (by
      obtain rfl : i = n := by omega
      simp only [Around.under_plainId F.plain_set_update_loop]
      exact wpAny_bind (W.done s _ _ st fun h' tk k => wpAny_pure (fin h' tk (x.keep fun o e => k S o (fun z => apart (W.sub S z)) e) fun c o _ hc e => k c o hc e)))
  | left + 1, i, s, hi, st, x, fin => codeAny_builtin F.entry_set_update_loop (by
      simp only [Around.under_plainId F.plain_set_update_loop]
      refine wpAny_bind (W.item i s _ _ (by omega) st fun v h1 t1 p st1 k1 => ?_)
      obtain ⟨is, sc⟩ := key i v p
      refine wpAny_bind (wpAny_holding (held_add is sc (by omega) (x.keep fun o e => k1 S o (fun z => apart (W.sub S z)) e) fun _ h2 t2 x2 k2 => ?_))
      refine wpAny_pure ⟨plainId_quiet F.plain_set_update_loop _, gather_loop W apart val key few left (i + 1) _ (by omega) (W.frame _ _ _ st1 fun c hc o e => (k2 c (fun z => apart (z ▸ hc))).trans e) x2 fun h3 t3 x3 k3 => ?_⟩
      exact fin h3 t3 x3 fun c o cS cw e => k3 c o cS cw ((k2 c cS).trans (k1 c o cw e)))
end
theorem strNoSet : isSubtype (.type "str") (.type "set") = pure false ∧ isSubtype (.type "str") (.type "frozenset") = pure false := by
  constructor <;> (rw [isSubtype_type]; kernel_rfl)
section
variable {prog : Program} {w : World} {A : Around} {E : Value → Shared → Prop} {s : Shared}
def signAt (x : Str) (i : Nat) : Str := ⟨#[x.cps.getD i 0]⟩
abbrev bareSet (led : Bool) : Obj := { cls := .type "set", dict := none, data := .set #[] 0 (.fresh 0 0 led) }
theorem bare_held {K : Type} [DecidableEq K] {knd : KeyKind prog w K} {S : Addr} {val : Nat → K} {h : Heap} {led : Bool} (e : h.get? S = some (bareSet led)) : Held knd S val 0 h :=
  (PyProof.Rows.setObjOf_fresh (knd := knd) led).setOf e (by decide)
theorem init_str {x : Str} {t : Tok} {led : Bool} {R : Result → Shared → Prop} (hh : A.handled = none) (few : x.cps.size + 1 < scanBound)
    (q : ∀ h' tk, Held (strKind prog w) s.heap.objs.size (signAt x) x.cps.size h' → (∀ c o, s.heap.get? c = some o → h'.get? c = some o) → R (.ok (.ret .none)) { s with heap := h', toks := tk }) :
    wpAny (model prog w) A.in1 (Builtin.«set.__init__» ⟨[.ref s.heap.objs.size, .str x t], []⟩)
      (fun fin s' => match fin with | .done f => R (.ok f) s' | .again c' => c'.quiet = true ∧ codeAny (model prog w) A c' R s') (fun e s' => R (.error e) s') { s with heap := s.heap.push (bareSet led) } := by
  have at0 : (s.heap.push (bareSet led)).get? s.heap.objs.size = some (bareSet led) := Heap.get?_push_size _ rfl
  have ne1 : (Value.type "str" == Value.type "dict") = false := by decide
  obtain ⟨no1, no2⟩ := strNoSet
  unfold Builtin.«set.__init__»
  unfold noKeywords Builtin.Frozenset.updateFrom
  generalize ep : pyIter = walker
  wp_walk
  subst ep
  refine wpAny_pyIter_str fun o St W st => wpAny_bind (wpAny_runValue ?_)
  have far : s.heap.objs.size ∉ [(s.heap.push (bareSet led)).objs.size] := fun z => by
    have := List.mem_singleton.mp z
    rw [Heap.size_push] at this
    exact absurd this (Nat.ne_of_lt (Nat.lt_succ_self _))
  refine gather_loop (knd := strKind prog w) (W _ (by simp [hh])) far (signAt x) (fun i v ⟨c, u, e, ev⟩ => ?_) few x.cps.size 0 _ (by omega) st (bare_held (Heap.get?_push_of_some _ at0)) fun h' tk held k => ?_
  · subst ev
    refine ⟨?_, rfl⟩
    have ec : signAt x i = ⟨#[c]⟩ := by simp [signAt, Array.getD_eq_getD_getElem?, e]
    rw [ec]
    show Value.isStrOf _ (.str _ u) = true
    simp [Value.isStrOf]
  · refine wpAny_pure (wpAny_pure ?_)
    refine q h' tk held fun c o e => k c o ?_ ?_ (Heap.get?_push_of_some _ (Heap.get?_push_of_some _ e))
    · exact Nat.ne_of_lt (Heap.lt_size e)
    · intro z
      have := List.mem_singleton.mp z
      rw [Heap.size_push] at this
      exact absurd (Heap.lt_size e) (by rw [this]; exact Nat.not_lt.mpr (Nat.le_succ _))
theorem call_set_str {x : Str} {t : Tok} {Q : Value → Shared → Prop} (hh : A.handled = none) (few : x.cps.size + 1 < scanBound)
    (q : ∀ h' tk, Held (strKind prog w) s.heap.objs.size (signAt x) x.cps.size h' → (∀ c o, s.heap.get? c = some o → h'.get? c = some o) → Q (.ref s.heap.objs.size) { s with heap := h', toks := tk }) :
    wpAny (model prog w) A (call (.type "set") [.str x t]) Q E s := by
  obtain ⟨_, _, order⟩ := F.called_set.mro
  have made := F.called_set.made
  have self := F.called_set.sub
  have nt := F.called_set.notType
  have cc := F.called_set.canCreate
  have tc := F.typeCall_set_1 (.str x t)
  refine wpAny_call (codeAny_of_tree (wpAny_pure ⟨Code.quiet_builtin _ (by decide +kernel), codeAny_builtin F.entry_type_call ?_⟩))
  simp only [Around.under_plain (weight_type_call_type "set" [.str x t] []) rfl]
  repeat any_goals first | assumption | wp_step
  refine codeAny_mono (code_set_new_1 (.str x t) (E := E) (Q₁ := fun obj s1 => obj = .ref s.heap.objs.size ∧ ∃ led, s1 = { s with heap := s.heap.push (bareSet led) }) fun led => ⟨rfl, led, rfl⟩) fun r s1 hr => ?_
  match r, hr with
  | .error _, hr => exact hr
  | .ok (.ret _), ⟨eo, led, es⟩ =>
    subst eo es
    have ty : Shared.TypeIs { s with heap := s.heap.push (bareSet led) } (.ref s.heap.objs.size) "set" := ⟨_, Heap.get?_push_size _ rfl, rfl⟩
    have look := F.called_set.init.lookup
    have bound := F.called_set.init.bind (.ref s.heap.objs.size)
    repeat any_goals first | assumption | wp_step
    refine codeAny_mono (codeAny_call_builtin (R := wants (fun r s2 => r = .none ∧ Q (.ref s.heap.objs.size) s2) E) F.called_set.init.plain F.entry_set_init (check_set_init_1 ty (init_str hh few fun h' tk x1 k1 => ⟨rfl, q h' tk x1 k1⟩))) fun r2 s2 hr2 => ?_
    match r2, hr2 with
    | .error _, hr2 => exact hr2
    | .ok (.ret _), ⟨e2, q2⟩ =>
      subst e2
      repeat any_goals first | assumption | wp_step
    | .ok .next, hr2 => exact hr2.elim
    | .ok .brk, hr2 => exact hr2.elim
    | .ok .cont, hr2 => exact hr2.elim
  | .ok .next, hr => exact hr.elim
  | .ok .brk, hr => exact hr.elim
  | .ok .cont, hr => exact hr.elim
end
def setS (a : Addr) (P : Program) (w : World) (n : Nat) : HO := .ext fun h => ∃ S, h.SetOf (strKind P w) a S n
section
variable {X : Cx}
theorem call_set_s (hc : X.calm = true) : CallR X (.type "set") (fun xs H Q => ∃ z, xs = [.str z] ∧ z.length ≤ 1000 ∧ ∀ l, H l = none → Q (.ref l) (upd H l (setS l X.prog X.w (dedup z.cps.toList).length))) := by
  intro pins s σ H xs us Q I r h
  obtain ⟨z, rfl, hz, q⟩ := h
  obtain ⟨u, rfl, t, rfl⟩ := vals1 r
  have hz' : z.cps.size ≤ 1000 := hz
  refine call_set_str (I.ok.hd hc) (by unfold scanBound; omega) fun h' tk hS kp => ?_
  unfold Held at hS
  have en : (metK (signAt z) z.cps.size).length = (dedup z.cps.toList).length := by
    have e1 : (List.range z.cps.size).map (signAt z) = z.cps.toList.map fun c => (⟨#[c]⟩ : Str) := by
      apply List.ext_getElem?
      intro i
      rw [List.getElem?_map, List.getElem?_map]
      by_cases hi : i < z.cps.size
      · rw [List.getElem?_range hi]
        simp [signAt, hi]
      · rw [List.getElem?_eq_none (by simpa using hi), List.getElem?_eq_none (by simpa using hi)]; rfl
    unfold metK
    rw [e1, dedup_map (fun c => (⟨#[c]⟩ : Str)) (fun a b e => by cases e; rfl), List.length_map]
  rw [en] at hS
  refine ⟨.ref s.heap.objs.size, _, I.laid (t' := tk) (o := setS s.heap.objs.size X.prog X.w (dedup z.cps.toList).length) kp (Nat.le_refl _) ?_, rfl, q _ (I.hok.fresh (Nat.le_refl _))⟩
  refine ⟨⟨_, hS⟩, let ⟨o, _, _, _, e, _⟩ := hS; ⟨o, e⟩, fun h1 h2 p k => ?_⟩
  obtain ⟨S, o, es, ep, t, e, r⟩ := p
  exact ⟨S, o, es, ep, t, k o e, r⟩
theorem call_len_set : CallR X (.builtin "len") (fun xs H Q => ∃ l n, xs = [.ref l] ∧ H l = some (setS l X.prog X.w n) ∧ Q (.int (n : Nat)) H) := by
  intro pins s σ H xs us Q I r h
  obtain ⟨l, n, rfl, hl, q⟩ := h
  obtain ⟨u, rfl, rx⟩ := vals1 r
  cases rx
  obtain ⟨⟨S, o, es, ep, t, e, hex, hd, _, _, hb, hf, hn⟩, _⟩ := I.hok l _ hl
  refine PySem.call_len_set e hex hd hf (by unfold scanBound at hb; omega) ⟨.int (n : Nat), H, I.tok _, ⟨_, by rw [hn]⟩, q⟩
end
end L2
set_option Elab.async false
set_option linter.all false
set_option maxRecDepth 100000
set_option maxHeartbeats 4000000
namespace L2
open PySem PySem.Spec
theorem bt_len : bootBuiltins "len" = some (.builtin "len") := PySem.boot_len
theorem bt_isinstance : bootBuiltins "isinstance" = some (.builtin "isinstance") := by first | exact PySem.boot_isinstance | exact PyProof.Rows.boot_isinstance
theorem bt_str : bootBuiltins "str" = some (.type "str") := by first | exact PySem.boot_str | exact PyProof.Rows.boot_str
theorem bt_ord : bootBuiltins "ord" = some (.builtin "ord") := by first | exact PySem.boot_ord | exact PyProof.Rows.boot_ord
theorem bt_set : bootBuiltins "set" = some (.type "set") := by first | exact PySem.boot_set | exact PyProof.Rows.boot_set
theorem bt_all : bootBuiltins "all" = some (.builtin "all") := by first | exact PySem.boot_all | exact PyProof.Rows.boot_all
theorem bt_abs : bootBuiltins "abs" = some (.builtin "abs") := by first | exact PySem.boot_abs | exact PyProof.Rows.boot_abs
theorem bt_int : bootBuiltins "int" = some (.type "int") := by first | exact PySem.boot_int | exact PyProof.Rows.boot_int
theorem bt_list : bootBuiltins "list" = some (.type "list") := by first | exact PySem.boot_list | exact PyProof.Rows.boot_list
theorem bt_tuple : bootBuiltins "tuple" = some (.type "tuple") := by first | exact PySem.boot_tuple | exact PyProof.Rows.boot_tuple
structure Dn (P : Program) (w : World) (K : PySem.W.Frag) (mg : Str → Option Value) (base : Heap) (k : Nat) (x : Str) (ps : List Str) (sp : Sp) (f : Addr) (fd : FuncData) : Prop where
  ok : FnOk P w K mg base CX0 k f fd ps sp
  m : mg x = some (.ref f)
  kp : PySem.W.keepIn K (.ref f) = true
  b : Binds K fd ps []
def Keep (p : Addr) (H H' : Hp) : Prop := ∀ b o, b ≠ p → H b = some o → H' b = some o
theorem Keep.refl (p : Addr) (H : Hp) : Keep p H H := fun _ _ _ h => h
theorem Keep.trans {p : Addr} {H H1 H2 : Hp} (a : Keep p H H1) (b : Keep p H1 H2) : Keep p H H2 := fun c o n h => b c o n (a c o n h)
theorem Same.keep {p : Addr} {H H' : Hp} (a : Same H H') : Keep p H H' := fun b o _ h => a b o h
theorem Keep.upd {p : Addr} {H : Hp} {o : HO} : Keep p H (upd H p o) := fun b u n h => by rw [upd_ne n]; exact h
theorem sLine : sizeLine = 16777216 := sizeLine_eq
theorem le_line {n : Nat} (h : n ≤ 16777216) : n ≤ sizeLine := by rw [sizeLine_eq]; exact h
end L2
namespace L2
open PySem PySem.Spec
theorem CSc.noFree {X : Cx} {scope : Scope} {ts : List Str} (kind : scope.kind = .function) (h : ∀ y ∈ scope.names, y.2 ≠ .cell ∧ y.2 ≠ .free) (names : ∀ y ∈ scope.names, y.2 = .local → scope.names.lookup y.1 = some .local)
    (ht : ∀ y ∈ ts, scope.names.lookup y = some .local) : CSc X scope [] ts [] [] := by
  have e : (relabel scope X.env).names = scope.names := by
    show scope.names.map _ = _
    refine map_eq_self fun y hy => ?_
    obtain ⟨n, k⟩ := y
    have : (k == NameKind.free) = false := by simpa using (h _ hy).2
    simp [this]
  refine ⟨closureFor_none fun y hy => (h y hy).2, kind, fun y hy => (h y hy).1, names, (fun _ _ z => nomatch z), fun y z => ?_, fun y hy => by rw [e]; exact ht y hy, rfl, (fun _ _ z => by simp at z)⟩
  rw [e] at z
  rcases z with z | z
  · exact absurd rfl (h _ (PySem.mem_of_lookup z)).1
  · exact absurd rfl (h _ (PySem.mem_of_lookup z)).2
theorem app_l (x y : Str) : (x ++ y).cps.toList = x.cps.toList ++ y.cps.toList := by
  show (x.cps ++ y.cps).toList = _
  simp
theorem app_len (x y : Str) : (x ++ y).length = x.length + y.length := by
  show (x.cps ++ y.cps).size = x.cps.size + y.cps.size
  simp
theorem len_l (x : Str) : x.cps.toList.length = x.length := by simp [Str.length]
theorem mk_l (l : List Nat) : (⟨l.toArray⟩ : Str).cps.toList = l := by simp
theorem mk_len (l : List Nat) : (⟨l.toArray⟩ : Str).length = l.length := by simp [Str.length]
theorem cutL_to {α : Type} (xs : List α) (k : Nat) : cutL xs none (some (k : Int)) = xs.take k := by
  unfold cutL
  rw [HT.sIx_none, HT.sIx_nat, List.drop_zero, Nat.sub_zero]
  by_cases h : k ≤ xs.length
  · rw [Nat.min_eq_left h]
  · rw [Nat.min_eq_right (by omega), List.take_of_length_le (Nat.le_refl _), List.take_of_length_le (by omega)]
theorem cutL_from {α : Type} (xs : List α) (k : Nat) : cutL xs (some (k : Int)) none = xs.drop k := by
  unfold cutL
  rw [HT.sIx_none, HT.sIx_nat]
  by_cases h : k ≤ xs.length
  · rw [Nat.min_eq_left h, List.take_of_length_le (by rw [List.length_drop]; omega)]
  · rw [Nat.min_eq_right (by omega), List.drop_eq_nil_of_le (Nat.le_refl _), List.drop_eq_nil_of_le (by omega), List.take_nil]
theorem cutL_ft {α : Type} (xs : List α) (j k : Nat) : cutL xs (some (j : Int)) (some (k : Int)) = (xs.drop j).take (k - j) := by
  unfold cutL
  rw [HT.sIx_nat, HT.sIx_nat]
  by_cases h : j ≤ xs.length
  · rw [Nat.min_eq_left h]
    by_cases h2 : k ≤ xs.length
    · rw [Nat.min_eq_left h2]
    · rw [Nat.min_eq_right (by omega), List.take_of_length_le (by rw [List.length_drop]; omega), List.take_of_length_le (by rw [List.length_drop]; omega)]
  · rw [Nat.min_eq_right (show xs.length ≤ j by omega), List.drop_eq_nil_of_le (Nat.le_refl _), List.drop_eq_nil_of_le (by omega), List.take_nil, List.take_nil]
end L2
set_option Elab.async false
set_option linter.all false
set_option maxRecDepth 100000
set_option maxHeartbeats 4000000
namespace L2
open PySem PySem.Spec PyProof.Rows
section
variable {X : Cx}
end
end L2
set_option Elab.async false
set_option linter.all false
set_option maxRecDepth 100000
set_option maxHeartbeats 4000000
namespace L2
open PySem PySem.Spec PyProof.Rows
section
variable {X : Cx}
end
theorem CSc.of {X : Cx} {scope : Scope} {cl : List (Str × Addr)} {ts fr : List Str} {ix : List Nat} (clos : closureFor scope X.env = pure cl) (kind : scope.kind = .function)
    (nocell : (scope.names.all fun p => p.2 != .cell) = true) (names : (scope.names.all fun p => p.2 != .local || scope.names.lookup p.1 == some .local) = true) (sub : ∀ p ∈ cl, X.env.cells.lookup p.1 = some p.2)
    (has : ((relabel scope X.env).names.all fun p => !(p.2 == .cell || p.2 == .free) || (cl.lookup p.1).isSome) = true) (nofn : (ts.all fun y => (relabel scope X.env).names.lookup y == some .local) = true)
    (len : ix.length = fr.length) (vis : ((fr.zip ix).all fun p => X.N[p.2]? == some p.1 && (X.env.kindOf p.1 == some .cell || X.env.kindOf p.1 == some .free) && ((relabel scope X.env).names.lookup p.1 == some .cell || (relabel scope X.env).names.lookup p.1 == some .free)) = true) :
    CSc X scope cl ts fr ix := by
  refine ⟨clos, kind, fun y hy => ?_, fun y hy e => ?_, fun y c e => sub _ (PySem.mem_of_lookup e), fun y z => ?_, fun y hy => ?_, len, fun j y e => ?_⟩
  · have := List.all_eq_true.mp nocell y hy
    simpa using this
  · have := List.all_eq_true.mp names y hy
    rw [e] at this
    simpa using this
  · have key : ∀ k, (relabel scope X.env).names.lookup y = some k → (k == .cell || k == .free) = true → ∃ c, cl.lookup y = some c := fun k e hk => by
      have := List.all_eq_true.mp has _ (PySem.mem_of_lookup e)
      rw [hk] at this
      exact Option.isSome_iff_exists.mp (by simpa using this)
    rcases z with z | z
    · exact key _ z rfl
    · exact key _ z rfl
  · have := List.all_eq_true.mp nofn y hy
    simpa using this
  · obtain ⟨hj, _⟩ := List.getElem?_eq_some_iff.mp e
    have hj2 : j < ix.length := by omega
    have hm : (y, ix[j]) ∈ fr.zip ix := by
      rw [List.mem_iff_getElem?]
      exact ⟨j, by rw [List.getElem?_zip_eq_some]; exact ⟨e, List.getElem?_eq_getElem hj2⟩⟩
    have := List.all_eq_true.mp vis _ hm
    simp only [Bool.and_eq_true, Bool.or_eq_true, beq_iff_eq] at this
    exact ⟨ix[j], List.getElem?_eq_getElem hj2, this.1.1, this.1.2, this.2⟩
end L2
set_option Elab.async false
set_option linter.all false
set_option maxRecDepth 100000
set_option maxHeartbeats 4000000
namespace HT
open PySem PySem.Spec PyProof.Rows
section
open PySem.SeqAt
open PySem.AutoSeq1 (wpAny_loadPart')
open PySem.MeetsSeq PySem.MeetsSeq2 PySem.MeetsSeq3
end
end HT
namespace L2
open PySem PySem.Spec PyProof.Rows
section
variable {X : Cx}
end
end L2
set_option Elab.async false
set_option linter.all false
set_option maxRecDepth 100000
set_option maxHeartbeats 4000000
namespace L2
open PySem PySem.Spec PyProof.Rows
end L2
set_option Elab.async false
set_option linter.all false
set_option maxRecDepth 100000
set_option maxHeartbeats 4000000
namespace L2
open PySem PySem.Spec PyProof.Rows
section
variable {X : Cx}
end
end L2
namespace SHP
open PySem L2
inductive Sh where
  | one (s : Str) | row (ps : List Sh) | either (ps : List Sh) | many (p : Sh) | times (p : Sh) (lo hi : Int)
def innerS : Sh → List Sh
  | .one _ => []
  | .row ps => ps
  | .either ps => ps
  | .many p => [p]
  | .times p _ _ => [p]
def ShAt : Nat → Hp → V → Sh → Prop
  | 0, _, _, _ => False
  | n + 1, H, v, sh => match sh with
    | .one s => ∃ a, v = .ref a ∧ H a = some (.tup [.str "one", .str s])
    | .row ps => ∃ a b vs, v = .ref a ∧ H a = some (.tup [.str "row", .ref b]) ∧ H b = some (.tup vs) ∧ vs.length ≤ 1000 ∧ Paired (ShAt n H) vs ps
    | .either ps => ∃ a b vs, v = .ref a ∧ H a = some (.tup [.str "either", .ref b]) ∧ H b = some (.tup vs) ∧ vs.length ≤ 1000 ∧ Paired (ShAt n H) vs ps
    | .many p => ∃ a u, v = .ref a ∧ H a = some (.tup [.str "many", u]) ∧ ShAt n H u p
    | .times p lo hi => ∃ a u, v = .ref a ∧ H a = some (.tup [.str "times", u, .int lo, .int hi]) ∧ 0 ≤ lo ∧ lo ≤ hi ∧ hi ≤ 4 ∧ ShAt n H u p
def Tups (H H' : Hp) : Prop := ∀ a xs, H a = some (.tup xs) → H' a = some (.tup xs)
theorem Tups.of {H H' : Hp} (s : Same H H') : Tups H H' := fun a xs h => s a _ h
theorem Tups.keep {H H' : Hp} {p : Addr} {xs : List V} (k : Keep p H H') (hp : H p = some (.lst xs)) : Tups H H' := fun a ys h => k a _ (by rintro rfl; rw [h] at hp; cases hp) h
theorem Tups.trans {H H1 H2 : Hp} (a : Tups H H1) (b : Tups H1 H2) : Tups H H2 := fun c xs h => b c xs (a c xs h)
theorem ShAt.tups {H H' : Hp} (t : Tups H H') : ∀ {n : Nat} {v : V} {sh : Sh}, ShAt n H v sh → ShAt n H' v sh
  | 0, _, _, h => h
  | n + 1, v, .one s, h => by
    obtain ⟨a, e, h⟩ := h
    exact ⟨a, e, t _ _ h⟩
  | n + 1, v, .row ps, h => by
    obtain ⟨a, b, vs, e, h1, h2, hl, r⟩ := h
    exact ⟨a, b, vs, e, t _ _ h1, t _ _ h2, hl, Paired.mapP r fun _ _ q => ShAt.tups t q⟩
  | n + 1, v, .either ps, h => by
    obtain ⟨a, b, vs, e, h1, h2, hl, r⟩ := h
    exact ⟨a, b, vs, e, t _ _ h1, t _ _ h2, hl, Paired.mapP r fun _ _ q => ShAt.tups t q⟩
  | n + 1, v, .many p, h => by
    obtain ⟨a, u, e, h1, r⟩ := h
    exact ⟨a, u, e, t _ _ h1, ShAt.tups t r⟩
  | n + 1, v, .times p lo hi, h => by
    obtain ⟨a, u, e, h1, h2, h3, h4, r⟩ := h
    exact ⟨a, u, e, t _ _ h1, h2, h3, h4, ShAt.tups t r⟩
theorem ShAt.up {H : Hp} : ∀ {n : Nat} {v : V} {sh : Sh}, ShAt n H v sh → ShAt (n + 1) H v sh
  | 0, _, _, h => h.elim
  | n + 1, v, .one s, h => h
  | n + 1, v, .row ps, h => by
    obtain ⟨a, b, vs, e, h1, h2, hl, r⟩ := h
    exact ⟨a, b, vs, e, h1, h2, hl, Paired.mapP r fun _ _ q => ShAt.up q⟩
  | n + 1, v, .either ps, h => by
    obtain ⟨a, b, vs, e, h1, h2, hl, r⟩ := h
    exact ⟨a, b, vs, e, h1, h2, hl, Paired.mapP r fun _ _ q => ShAt.up q⟩
  | n + 1, v, .many p, h => by
    obtain ⟨a, u, e, h1, r⟩ := h
    exact ⟨a, u, e, h1, ShAt.up r⟩
  | n + 1, v, .times p lo hi, h => by
    obtain ⟨a, u, e, h1, h2, h3, h4, r⟩ := h
    exact ⟨a, u, e, h1, h2, h3, h4, ShAt.up r⟩
end SHP
set_option Elab.async false
set_option linter.all false
set_option maxRecDepth 100000
set_option maxHeartbeats 4000000
namespace L2
open PySem PySem.Spec PyProof.Rows
section
variable {X : Cx}
end
end L2
namespace SHP
open PySem L2
def Kids (H : Hp) (v : V) : Sh → List V → Prop
  | .one _, ks => ks = []
  | .row _, ks => ∃ a b, v = .ref a ∧ H a = some (.tup [.str "row", .ref b]) ∧ H b = some (.tup ks)
  | .either _, ks => ∃ a b, v = .ref a ∧ H a = some (.tup [.str "either", .ref b]) ∧ H b = some (.tup ks)
  | .many _, ks => ∃ a u, v = .ref a ∧ H a = some (.tup [.str "many", u]) ∧ ks = [u]
  | .times _ lo hi, ks => ∃ a u, v = .ref a ∧ H a = some (.tup [.str "times", u, .int lo, .int hi]) ∧ ks = [u]
theorem Kids.tups {H H' : Hp} (t : Tups H H') {v : V} {ks : List V} : ∀ {sh : Sh}, Kids H v sh ks → Kids H' v sh ks
  | .one _, h => h
  | .row _, h => by obtain ⟨a, b, e, h1, h2⟩ := h; exact ⟨a, b, e, t _ _ h1, t _ _ h2⟩
  | .either _, h => by obtain ⟨a, b, e, h1, h2⟩ := h; exact ⟨a, b, e, t _ _ h1, t _ _ h2⟩
  | .many _, h => by obtain ⟨a, u, e, h1, h2⟩ := h; exact ⟨a, u, e, t _ _ h1, h2⟩
  | .times _ _ _, h => by obtain ⟨a, u, e, h1, h2⟩ := h; exact ⟨a, u, e, t _ _ h1, h2⟩
inductive Tri {α β γ : Type} (R : α → β → γ → Prop) : List α → List β → List γ → Prop where
  | nil : Tri R [] [] []
  | cons {a b c as bs cs} : R a b c → Tri R as bs cs → Tri R (a :: as) (b :: bs) (c :: cs)
theorem Tri.imp {α β γ : Type} {R S : α → β → γ → Prop} : ∀ {as : List α} {bs : List β} {cs : List γ}, Tri R as bs cs → (∀ a b c, R a b c → S a b c) → Tri S as bs cs
  | _, _, _, .nil, _ => .nil
  | _, _, _, .cons r t, f => .cons (f _ _ _ r) (Tri.imp t f)
theorem Tri.snoc {α β γ : Type} {R : α → β → γ → Prop} {a : α} {b : β} {c : γ} (r : R a b c) : ∀ {as : List α} {bs : List β} {cs : List γ}, Tri R as bs cs → Tri R (as ++ [a]) (bs ++ [b]) (cs ++ [c])
  | _, _, _, .nil => .cons r .nil
  | _, _, _, .cons q t => .cons q (Tri.snoc r t)
def PV : Nat → Hp → V → Sh → List V → Prop
  | 0, _, _, _, _ => False
  | n + 1, H, v, sh, us => ∃ ks uss, Kids H v sh ks ∧ Tri (PV n H) ks (innerS sh) uss ∧ us = v :: uss.flatten
theorem PV.tups {H H' : Hp} (t : Tups H H') : ∀ {n : Nat} {v : V} {sh : Sh} {us : List V}, PV n H v sh us → PV n H' v sh us
  | 0, _, _, _, h => h
  | n + 1, _, _, _, h => by
    obtain ⟨ks, uss, k, r, e⟩ := h
    exact ⟨ks, uss, k.tups t, r.imp fun _ _ _ q => PV.tups t q, e⟩
end SHP
set_option Elab.async false
set_option linter.all false
set_option maxRecDepth 100000
set_option maxHeartbeats 4000000
namespace MI
open PySem L2
inductive D where
  | non | bl (b : Bool) | int (i : Int) | str (x : Str) | ty (n : String) | tup (xs : List D) | rol (xs : List D) | ref (i : Nat)
inductive O where
  | lst (xs : List D) | dK (kvs : List (Key × D))
abbrev Hd := List O
abbrev Sd := List (Option D)
inductive R (α : Type) where
  | ok (a : α) (h : Hd) | ex (c : Str) (h : Hd) | no
def R.bind {α β : Type} : R α → (α → Hd → R β) → R β
  | .ok a h, k => k a h
  | .ex c h, _ => .ex c h
  | .no, _ => .no
inductive Fl where
  | nx (σ : Sd) (h : Hd) | rt (d : D) (h : Hd) | bk (σ : Sd) (h : Hd) | ct (σ : Sd) (h : Hd) | ex (c : Str) (h : Hd) | no
def R.fl {α : Type} : R α → (α → Hd → Fl) → Fl
  | .ok a h, k => k a h
  | .ex c h, _ => .ex c h
  | .no, _ => .no
abbrev SE := Sd → Hd → R D
abbrev ST := Sd → Hd → R Bool
abbrev SA := Sd → Hd → R (List D)
abbrev SS := Sd → Hd → Fl
def SqF (K : PySem.W.Frag) (H : Hp) (a : Addr) (vs : List V) : Prop := (∃ o, H a = some (.frz o (.lst vs))) ∨ SqL K (fun _ => none) a vs
theorem SqF.l {K : PySem.W.Frag} {H : Hp} {a : Addr} {vs : List V} (h : SqF K H a vs) : SqL K H a vs := by
  rcases h with ⟨o, h⟩ | h
  · exact .inl (.inr ⟨o, h⟩)
  · rcases h with (h | ⟨o, h⟩) | h
    · cases h
    · cases h
    · exact .inr h
mutual
inductive Rep (K : PySem.W.Frag) (ι : List Addr) (H : Hp) : V → D → Prop
  | non : Rep K ι H .non .non
  | bl (b : Bool) : Rep K ι H (.bl b) (.bl b)
  | int (i : Int) : Rep K ι H (.int i) (.int i)
  | str (x : Str) : Rep K ι H (.str x) (.str x)
  | ty (n : String) : Rep K ι H (.ty n) (.ty n)
  | tup {a : Addr} {vs : List V} {xs : List D} (h : H a = some (.tup vs)) (r : Reps K ι H vs xs) : Rep K ι H (.ref a) (.tup xs)
  | rol {a : Addr} {vs : List V} {xs : List D} (h : SqF K H a vs) (r : Reps K ι H vs xs) : Rep K ι H (.ref a) (.rol xs)
  | ref {a : Addr} {i : Nat} (h : ι[i]? = some a) : Rep K ι H (.ref a) (.ref i)
inductive Reps (K : PySem.W.Frag) (ι : List Addr) (H : Hp) : List V → List D → Prop
  | nil : Reps K ι H [] []
  | cons {v : V} {d : D} {vs : List V} {ds : List D} (r : Rep K ι H v d) (rs : Reps K ι H vs ds) : Reps K ι H (v :: vs) (d :: ds)
end
structure Gr (ι : List Addr) (H : Hp) (ι' : List Addr) (H' : Hp) : Prop where
  pre : ∃ m, ι' = ι ++ m
  tup : ∀ a vs, H a = some (.tup vs) → H' a = some (.tup vs)
  frz : ∀ a o u, H a = some (.frz o u) → H' a = some (.frz o u)
theorem Gr.refl (ι : List Addr) (H : Hp) : Gr ι H ι H := ⟨⟨[], by simp⟩, fun _ _ h => h, fun _ _ _ h => h⟩
theorem Gr.trans {ι ι1 ι2 : List Addr} {H H1 H2 : Hp} (a : Gr ι H ι1 H1) (b : Gr ι1 H1 ι2 H2) : Gr ι H ι2 H2 := by
  obtain ⟨m, rfl⟩ := a.pre
  obtain ⟨n, rfl⟩ := b.pre
  exact ⟨⟨m ++ n, by simp⟩, fun x vs h => b.tup x vs (a.tup x vs h), fun x o u h => b.frz x o u (a.frz x o u h)⟩
theorem Gr.at {ι ι' : List Addr} {H H' : Hp} (g : Gr ι H ι' H') {i : Nat} {a : Addr} (h : ι[i]? = some a) : ι'[i]? = some a := by
  obtain ⟨m, rfl⟩ := g.pre
  rw [List.getElem?_append_left (List.getElem?_eq_some_iff.mp h).1]
  exact h
theorem SqF.mono {K : PySem.W.Frag} {ι ι' : List Addr} {H H' : Hp} (g : Gr ι H ι' H') {a : Addr} {vs : List V} (h : SqF K H a vs) : SqF K H' a vs := by
  rcases h with ⟨o, h⟩ | h
  · exact .inl ⟨o, g.frz _ _ _ h⟩
  · exact .inr h
mutual
theorem Rep.mono {K : PySem.W.Frag} {ι ι' : List Addr} {H H' : Hp} (g : Gr ι H ι' H') : ∀ {v : V} {d : D}, Rep K ι H v d → Rep K ι' H' v d
  | _, _, .non => .non
  | _, _, .bl b => .bl b
  | _, _, .int i => .int i
  | _, _, .str x => .str x
  | _, _, .ty n => .ty n
  | _, _, .tup h r => .tup (g.tup _ _ h) (Reps.mono g r)
  | _, _, .rol h r => .rol (h.mono g) (Reps.mono g r)
  | _, _, .ref h => .ref (g.at h)
theorem Reps.mono {K : PySem.W.Frag} {ι ι' : List Addr} {H H' : Hp} (g : Gr ι H ι' H') : ∀ {vs : List V} {ds : List D}, Reps K ι H vs ds → Reps K ι' H' vs ds
  | _, _, .nil => .nil
  | _, _, .cons r rs => .cons (Rep.mono g r) (Reps.mono g rs)
end
section
variable {K : PySem.W.Frag} {ι : List Addr} {H : Hp}
theorem Reps.len {vs : List V} {ds : List D} : Reps K ι H vs ds → vs.length = ds.length
  | .nil => rfl
  | .cons _ rs => by rw [List.length_cons, List.length_cons, rs.len]
theorem Reps.get : ∀ {vs : List V} {ds : List D} {i : Nat} {d : D}, Reps K ι H vs ds → ds[i]? = some d → ∃ v, vs[i]? = some v ∧ Rep K ι H v d
  | _, _, _, _, .nil, e => by simp at e
  | _, _, 0, _, .cons r _, e => by simp at e; subst e; exact ⟨_, rfl, r⟩
  | _, _, i + 1, d, .cons _ rs, e => by
    obtain ⟨u, h1, h2⟩ := Reps.get (i := i) (d := d) rs (by simpa using e)
    exact ⟨u, by simpa using h1, h2⟩
theorem Reps.app : ∀ {vs us : List V} {ds es : List D}, Reps K ι H vs ds → Reps K ι H us es → Reps K ι H (vs ++ us) (ds ++ es)
  | _, _, _, _, .nil, s => s
  | _, _, _, _, .cons r rs, s => .cons r (Reps.app rs s)
theorem Reps.set {v : V} {d : D} (q : Rep K ι H v d) : ∀ {vs : List V} {ds : List D} (i : Nat), Reps K ι H vs ds → Reps K ι H (vs.set i v) (ds.set i d)
  | _, _, _, .nil => .nil
  | _, _, 0, .cons _ rs => .cons q rs
  | _, _, i + 1, .cons r rs => .cons r (Reps.set q i rs)
theorem Reps.take : ∀ {vs : List V} {ds : List D} (n : Nat), Reps K ι H vs ds → Reps K ι H (vs.take n) (ds.take n)
  | _, _, 0, _ => .nil
  | _, _, _ + 1, .nil => .nil
  | _, _, n + 1, .cons r rs => .cons r (Reps.take n rs)
theorem Reps.drop : ∀ {vs : List V} {ds : List D} (n : Nat), Reps K ι H vs ds → Reps K ι H (vs.drop n) (ds.drop n)
  | _, _, 0, r => r
  | _, _, _ + 1, .nil => .nil
  | _, _, n + 1, .cons _ rs => Reps.drop n rs
theorem Reps.snoc {vs : List V} {ds : List D} {v : V} {d : D} (r : Reps K ι H vs ds) (q : Rep K ι H v d) : Reps K ι H (vs ++ [v]) (ds ++ [d]) := r.app (.cons q .nil)
theorem Reps.flat : ∀ {vs : List V} {ds : List D} (k : Nat), Reps K ι H vs ds → Reps K ι H (List.replicate k vs).flatten (List.replicate k ds).flatten
  | _, _, 0, _ => .nil
  | vs, ds, k + 1, r => by
    rw [List.replicate_succ, List.replicate_succ, List.flatten_cons, List.flatten_cons]
    exact r.app (Reps.flat k r)
end
def KRep (K : PySem.W.Frag) (ι : List Addr) (H : Hp) (us : List (Key × V)) (kvs : List (Key × D)) : Prop := us.map (·.1) = kvs.map (·.1) ∧ Reps K ι H (us.map (·.2)) (kvs.map (·.2))
def ORep (K : PySem.W.Frag) (ι : List Addr) (H : Hp) (a : Addr) : O → Prop
  | .lst xs => ∃ vs, H a = some (.lst vs) ∧ Reps K ι H vs xs
  | .dK kvs => ∃ us, H a = some (.dK us) ∧ KRep K ι H us kvs
structure HRep (K : PySem.W.Frag) (ι : List Addr) (H : Hp) (h : Hd) : Prop where
  nd : ι.Nodup
  len : ι.length = h.length
  obj : ∀ (i : Nat) (a : Addr) (o : O), ι[i]? = some a → h[i]? = some o → ORep K ι H a o
section
variable {K : PySem.W.Frag} {ι : List Addr} {H : Hp} {h : Hd}
theorem ORep.some {a : Addr} {o : O} (r : ORep K ι H a o) : ∃ u, H a = some u ∧ (∀ vs, u ≠ .tup vs) ∧ (∀ o' u', u ≠ .frz o' u') := by
  cases o with
  | lst xs => obtain ⟨vs, e, _⟩ := r; exact ⟨_, e, fun _ z => (by cases z), fun _ _ z => (by cases z)⟩
  | dK kvs => obtain ⟨us, e, _⟩ := r; exact ⟨_, e, fun _ z => (by cases z), fun _ _ z => (by cases z)⟩
theorem HRep.at (r : HRep K ι H h) {i : Nat} {a : Addr} (e : ι[i]? = some a) : ∃ o, h[i]? = some o ∧ ORep K ι H a o := by
  have hi : i < h.length := by rw [← r.len]; exact (List.getElem?_eq_some_iff.mp e).1
  exact ⟨h[i], List.getElem?_eq_getElem hi, r.obj i a _ e (List.getElem?_eq_getElem hi)⟩
theorem HRep.addr (r : HRep K ι H h) {i : Nat} {o : O} (e : h[i]? = some o) : ∃ a, ι[i]? = some a ∧ ORep K ι H a o := by
  have hi : i < ι.length := by rw [r.len]; exact (List.getElem?_eq_some_iff.mp e).1
  exact ⟨ι[i], List.getElem?_eq_getElem hi, r.obj i _ o (List.getElem?_eq_getElem hi) e⟩
theorem HRep.notin (r : HRep K ι H h) {p : Addr} (e : H p = none) : p ∉ ι := fun z => by
  obtain ⟨i, hi⟩ := List.getElem?_of_mem z
  obtain ⟨o, _, q⟩ := r.at hi
  obtain ⟨u, q, _⟩ := q.some
  rw [e] at q; cases q
theorem ORep.mono {ι' : List Addr} {H' : Hp} {a : Addr} {o : O} (g : Gr ι H ι' H') (e : H' a = H a) (r : ORep K ι H a o) : ORep K ι' H' a o := by
  cases o with
  | lst xs => obtain ⟨vs, h1, h2⟩ := r; exact ⟨vs, by rw [e]; exact h1, h2.mono g⟩
  | dK kvs => obtain ⟨us, h1, h2, h3⟩ := r; exact ⟨us, by rw [e]; exact h1, h2, h3.mono g⟩
theorem gr_new {p : Addr} (e : H p = none) (o : HO) : Gr ι H ι (upd H p o) :=
  ⟨⟨[], by simp⟩, fun a vs h => by rw [upd_ne (ne_of_none h e)]; exact h, fun a o u h => by rw [upd_ne (ne_of_none h e)]; exact h⟩
theorem HRep.aside (r : HRep K ι H h) {p : Addr} (e : H p = none) (o : HO) : HRep K ι (upd H p o) h := by
  refine ⟨r.nd, r.len, fun i a o' e1 e2 => ?_⟩
  have q := r.obj i a o' e1 e2
  obtain ⟨u, hu, _⟩ := q.some
  exact q.mono (gr_new e o) (upd_ne (ne_of_none hu e))
theorem gr_add {p : Addr} (e : H p = none) (o : HO) : Gr ι H (ι ++ [p]) (upd H p o) :=
  ⟨⟨[p], rfl⟩, (gr_new (ι := ι) e o).tup, (gr_new (ι := ι) e o).frz⟩
theorem HRep.add (r : HRep K ι H h) {p : Addr} (e : H p = none) {o : HO} {ob : O} (q : ORep K (ι ++ [p]) (upd H p o) p ob) : HRep K (ι ++ [p]) (upd H p o) (h ++ [ob]) := by
  refine ⟨?_, by simp [r.len], fun i a o' e1 e2 => ?_⟩
  · rw [List.nodup_append]
    exact ⟨r.nd, by simp, fun a ha b hb z => r.notin e (by rw [List.mem_singleton.mp hb] at z; rw [← z]; exact ha)⟩
  · by_cases hi : i < ι.length
    · rw [List.getElem?_append_left hi] at e1
      rw [List.getElem?_append_left (by rw [← r.len]; exact hi)] at e2
      have q := r.obj i a o' e1 e2
      obtain ⟨u, hu, _⟩ := q.some
      exact q.mono (gr_add e o) (upd_ne (ne_of_none hu e))
    · have hi2 : i < (ι ++ [p]).length := (List.getElem?_eq_some_iff.mp e1).1
      have : i = ι.length := by simp at hi2; omega
      subst this
      rw [List.getElem?_append_right (Nat.le_refl _)] at e1
      rw [r.len, List.getElem?_append_right (Nat.le_refl _)] at e2
      simp at e1 e2
      subst e1 e2
      exact q
theorem gr_put {a : Addr} {i : Nat} (r : HRep K ι H h) (e : ι[i]? = some a) (o : HO) : Gr ι H ι (upd H a o) := by
  obtain ⟨_, _, q⟩ := r.at e
  obtain ⟨u, hu, n1, n2⟩ := q.some
  refine ⟨⟨[], by simp⟩, fun b vs hb => ?_, fun b o' u' hb => ?_⟩
  · rw [upd_ne (fun z => by subst z; rw [hu] at hb; exact n1 _ (Option.some.inj hb))]; exact hb
  · rw [upd_ne (fun z => by subst z; rw [hu] at hb; exact n2 _ _ (Option.some.inj hb))]; exact hb
theorem HRep.put (r : HRep K ι H h) {a : Addr} {i : Nat} (e : ι[i]? = some a) {o : HO} {ob : O} (q : ORep K ι (upd H a o) a ob) : HRep K ι (upd H a o) (h.set i ob) := by
  refine ⟨r.nd, by rw [List.length_set]; exact r.len, fun j b o' e1 e2 => ?_⟩
  by_cases hj : i = j
  · subst hj
    rw [e] at e1; cases e1
    have hi : i < h.length := by rw [← r.len]; exact (List.getElem?_eq_some_iff.mp e).1
    rw [List.getElem?_set_self hi] at e2; cases e2
    exact q
  · rw [List.getElem?_set_ne hj] at e2
    have hne : b ≠ a := fun z => by
      subst z
      obtain ⟨h1, g1⟩ := List.getElem?_eq_some_iff.mp e
      obtain ⟨h2, g2⟩ := List.getElem?_eq_some_iff.mp e1
      have np := List.pairwise_iff_getElem.mp r.nd
      rcases Nat.lt_or_gt_of_ne hj with l | l
      · exact np i j h1 h2 l (g1.trans g2.symm)
      · exact np j i h2 h1 l (g2.trans g1.symm)
    exact (r.obj j b o' e1 e2).mono (gr_put r e o) (upd_ne hne)
end
structure SRep (K : PySem.W.Frag) (ι : List Addr) (H : Hp) (σ : St) (τ : Sd) : Prop where
  len : σ.length = τ.length
  val : ∀ (i : Nat) (d : D), τ[i]? = some (some d) → ∃ v, σ[i]? = some (some v) ∧ Rep K ι H v d
theorem SRep.mono {K : PySem.W.Frag} {ι ι' : List Addr} {H H' : Hp} {σ : St} {τ : Sd} (g : Gr ι H ι' H') (s : SRep K ι H σ τ) : SRep K ι' H' σ τ :=
  ⟨s.len, fun i d e => let ⟨v, h1, h2⟩ := s.val i d e; ⟨v, h1, h2.mono g⟩⟩
theorem SRep.set {K : PySem.W.Frag} {ι : List Addr} {H : Hp} {σ : St} {τ : Sd} (s : SRep K ι H σ τ) {v : V} {d : D} (r : Rep K ι H v d) (i : Nat) : SRep K ι H (σ.set i (some v)) (τ.set i (some d)) := by
  refine ⟨by simp [s.len], fun j d' e => ?_⟩
  by_cases hj : i = j
  · subst hj
    have hi : i < τ.length := by
      have := (List.getElem?_eq_some_iff.mp e).1
      simpa using this
    rw [List.getElem?_set_self hi] at e
    cases e
    exact ⟨v, by rw [List.getElem?_set_self (by rw [s.len]; exact hi)], r⟩
  · rw [List.getElem?_set_ne hj] at e ⊢
    exact s.val j d' e
abbrev XD := Str → List Addr → Hp → Hd → Prop
def out {α β : Type} (K : PySem.W.Frag) (E : XD) (Rp : List Addr → Hp → β → α → Prop) (ι : List Addr) (H : Hp) (r : R α) (Q : β → Hp → Prop) : Prop :=
  match r with
  | .ok a h => ∀ ι' H' b, Gr ι H ι' H' → Rp ι' H' b a → HRep K ι' H' h → Q b H'
  | .ex c h => ∀ ι' H', Gr ι H ι' H' → HRep K ι' H' h → E c ι' H' h
  | .no => False
theorem out_mono {α β : Type} {K : PySem.W.Frag} {E : XD} {Rp : List Addr → Hp → β → α → Prop} {ι ι1 : List Addr} {H H1 : Hp} {r : R α} {Q : β → Hp → Prop} (o : out K E Rp ι H r Q) (g : Gr ι H ι1 H1) : out K E Rp ι1 H1 r Q := by
  cases r with
  | ok a h => exact fun ι' H' b g' => o ι' H' b (g.trans g')
  | ex c h => exact fun ι' H' g' => o ι' H' (g.trans g')
  | no => exact o
theorem out_bind {α β γ δ : Type} {K : PySem.W.Frag} {E : XD} {Rp : List Addr → Hp → β → α → Prop} {Sp : List Addr → Hp → δ → γ → Prop} {ι : List Addr} {H : Hp} {r : R α} {k : α → Hd → R γ} {Q : δ → Hp → Prop} {P : β → Hp → Prop}
    (o : out K E Sp ι H (r.bind k) Q) (hP : ∀ a h ι1 H1 b, Gr ι H ι1 H1 → Rp ι1 H1 b a → HRep K ι1 H1 h → out K E Sp ι1 H1 (k a h) Q → P b H1) : out K E Rp ι H r P := by
  cases r with
  | ok a h => exact fun ι' H' b g r' hr => hP a h ι' H' b g r' hr (out_mono o g)
  | ex c h => exact o
  | no => exact o
abbrev repD (K : PySem.W.Frag) : List Addr → Hp → V → D → Prop := fun ι H v d => Rep K ι H v d
abbrev repL (K : PySem.W.Frag) : List Addr → Hp → List V → List D → Prop := fun ι H v d => Reps K ι H v d
abbrev repB : List Addr → Hp → Bool → Bool → Prop := fun _ _ a b => a = b
abbrev repO : List Addr → Hp → Option Int → Option Int → Prop := fun _ _ a b => a = b
def outS (K : PySem.W.Frag) (E : XD) (ι : List Addr) (H : Hp) (r : Fl) (N : Ends) : Prop :=
  match r with
  | .nx τ h => ∀ ι' H' σ, Gr ι H ι' H' → SRep K ι' H' σ τ → HRep K ι' H' h → N.nx σ H'
  | .bk τ h => ∀ ι' H' σ, Gr ι H ι' H' → SRep K ι' H' σ τ → HRep K ι' H' h → N.bk σ H'
  | .ct τ h => ∀ ι' H' σ, Gr ι H ι' H' → SRep K ι' H' σ τ → HRep K ι' H' h → N.ct σ H'
  | .rt d h => ∀ ι' H' v, Gr ι H ι' H' → Rep K ι' H' v d → HRep K ι' H' h → N.rt v H'
  | .ex c h => ∀ ι' H', Gr ι H ι' H' → HRep K ι' H' h → E c ι' H' h
  | .no => False
theorem outS_mono {K : PySem.W.Frag} {E : XD} {ι ι1 : List Addr} {H H1 : Hp} {r : Fl} {N : Ends} (o : outS K E ι H r N) (g : Gr ι H ι1 H1) : outS K E ι1 H1 r N := by
  cases r with
  | nx τ h => exact fun ι' H' b g' => o ι' H' b (g.trans g')
  | bk τ h => exact fun ι' H' b g' => o ι' H' b (g.trans g')
  | ct τ h => exact fun ι' H' b g' => o ι' H' b (g.trans g')
  | rt d h => exact fun ι' H' b g' => o ι' H' b (g.trans g')
  | ex c h => exact fun ι' H' g' => o ι' H' (g.trans g')
  | no => exact o
theorem out_fl {α β : Type} {K : PySem.W.Frag} {E : XD} {Rp : List Addr → Hp → β → α → Prop} {ι : List Addr} {H : Hp} {r : R α} {k : α → Hd → Fl} {N : Ends} {P : β → Hp → Prop}
    (o : outS K E ι H (r.fl k) N) (hP : ∀ a h ι1 H1 b, Gr ι H ι1 H1 → Rp ι1 H1 b a → HRep K ι1 H1 h → outS K E ι1 H1 (k a h) N → P b H1) : out K E Rp ι H r P := by
  cases r with
  | ok a h => exact fun ι' H' b g r' hr => hP a h ι' H' b g r' hr (outS_mono o g)
  | ex c h => exact o
  | no => exact o
def lift {α β : Type} (K : PySem.W.Frag) (E : XD) (Rp : List Addr → Hp → β → α → Prop) (f : Sd → Hd → R α) : St → Hp → (β → Hp → Prop) → Prop := fun σ H Q =>
  ∃ ι τ h, SRep K ι H σ τ ∧ HRep K ι H h ∧ out K E Rp ι H (f τ h) Q
def liftS (K : PySem.W.Frag) (E : XD) (f : SS) : TS := fun N σ H => ∃ ι τ h, SRep K ι H σ τ ∧ HRep K ι H h ∧ outS K E ι H (f τ h) N
abbrev ME (X : Cx) (E : XD) (e : Expr) (f : SE) : Prop := PE X e (lift X.K E (repD X.K) f)
abbrev MT (X : Cx) (E : XD) (e : Expr) (f : ST) : Prop := PT X e (lift X.K E repB f)
abbrev MW (X : Cx) (E : XD) (e : Expr) (f : ST) : Prop := PW X e (lift X.K E repB f)
abbrev MA (X : Cx) (E : XD) (es : List Expr) (f : SA) : Prop := PA X es (lift X.K E (repL X.K) f)
abbrev MS (X : Cx) (E : XD) (st : Stmt) (f : SS) : Prop := PS X st (liftS X.K E f)
abbrev MSs (X : Cx) (E : XD) (st : List Stmt) (f : SS) : Prop := PSs X st (liftS X.K E f)
theorem PE.weak {X : Cx} {e : Expr} {t t' : TE} (h : PE X e t) (i : ∀ σ H Q, t' σ H Q → t σ H Q) : PE X e t' := fun pins s σ H Q I q => h pins s σ H Q I (i _ _ _ q)
theorem PT.weak {X : Cx} {e : Expr} {t t' : TT} (h : PT X e t) (i : ∀ σ H Q, t' σ H Q → t σ H Q) : PT X e t' := fun pins s σ H Q I q => h pins s σ H Q I (i _ _ _ q)
theorem PW.weak {X : Cx} {e : Expr} {t t' : TT} (h : PW X e t) (i : ∀ σ H Q, t' σ H Q → t σ H Q) : PW X e t' := fun wh pins s σ H Q I q => h wh pins s σ H Q I (i _ _ _ q)
theorem PA.weak {X : Cx} {e : List Expr} {t t' : TA} (h : PA X e t) (i : ∀ σ H Q, t' σ H Q → t σ H Q) : PA X e t' := fun pos pins s σ H Q I q => h pos pins s σ H Q I (i _ _ _ q)
theorem PS.weak {X : Cx} {e : Stmt} {t t' : TS} (h : PS X e t) (i : ∀ N σ H, t' N σ H → t N σ H) : PS X e t' := fun pins s σ H N I q => h pins s σ H N I (i _ _ _ q)
theorem PSs.weak {X : Cx} {e : List Stmt} {t t' : TS} (h : PSs X e t) (i : ∀ N σ H, t' N σ H → t N σ H) : PSs X e t' := fun pins s σ H N I q => h pins s σ H N I (i _ _ _ q)
end MI
set_option Elab.async false
set_option linter.all false
set_option maxRecDepth 100000
set_option maxHeartbeats 4000000
namespace MI
open PySem L2
abbrev LINE : Nat := 16777216
theorem ll {n : Nat} (h : n ≤ LINE) : n ≤ sizeLine := le_line h
def sV (i : Nat) : SE := fun τ h => match τ[i]? with | some (some d) => .ok d h | _ => .no
def sC (d : D) : SE := fun _ h => .ok d h
section
variable {X : Cx} {E : XD} {a b c e : Expr} {fa fb fc : SE} {pos : Pos}
theorem me_v (i : Nat) {x : Str} {pos : Pos} (hN : X.N[i]? = some x := by rfl) (hv : Vis X.env.scope x := by first | exact Or.inl rfl | exact Or.inr (Or.inl rfl) | exact Or.inr (Or.inr rfl)) (hd : (x == ("__debug__" : Str)) = false := by decide)
    (hcd : (x == ("__classdict__" : Str)) = false := by decide) : ME X E (.Name x pos) (sV i) := by
  refine PE.weak (pe_var hN hv hd hcd) fun σ H Q ⟨ι, τ, h, S, Rh, o⟩ => ?_
  unfold sV at o
  split at o
  · rename_i d e
    obtain ⟨v, h1, h2⟩ := S.val i d e
    exact ⟨v, h1, o ι H v (.refl _ _) h2 Rh⟩
  · exact o.elim
theorem me_c {v : V} {d : D} (h : PE X e (tC v)) (r : ∀ ι H, Rep X.K ι H v d) : ME X E e (sC d) :=
  PE.weak h fun σ H Q ⟨ι, τ, h, S, Rh, o⟩ => o ι H v (.refl _ _) (r ι H) Rh
theorem me_int {i j pos} : ME X E (.Constant (.int i) j pos) (sC (.int i)) := me_c pe_int fun _ _ => .int i
theorem me_bl {i j pos} : ME X E (.Constant (.bool i) j pos) (sC (.bl i)) := me_c pe_bl fun _ _ => .bl i
theorem me_str {i j pos} : ME X E (.Constant (.str i) j pos) (sC (.str i)) := me_c pe_str fun _ _ => .str i
theorem me_non {j pos} : ME X E (.Constant .none j pos) (sC .non) := me_c pe_non fun _ _ => .non
theorem me_ty {x : Str} {n : String} {pos : Pos} (hg : Gl X x) (hm : X.mg x = none) (hv : bootBuiltins x = some (.type n)) (hn : x ≠ "__name__" := by decide) (hd : (x == ("__debug__" : Str)) = false := by decide) : ME X E (.Name x pos) (sC (.ty n)) :=
  me_c (pe_bltn (v := .ty n) hg hm hv rfl hn hd) fun _ _ => .ty n
theorem me_gint {x : Str} {i : Int} {t : Tok} {pos : Pos} (hg : Gl X x) (hm : X.mg x = some (.int i t)) (hd : (x == ("__debug__" : Str)) = false := by decide) : ME X E (.Name x pos) (sC (.int i)) :=
  me_c (pe_glob (v := .int i) hg hm ⟨t, rfl⟩ hd) fun _ _ => .int i
def s2 (g : D → D → Hd → R D) (fa fb : SE) : SE := fun τ h => (fa τ h).bind fun x h1 => (fb τ h1).bind fun y h2 => g x y h2
def s1 (g : D → Hd → R D) (fa : SE) : SE := fun τ h => (fa τ h).bind g
def Snd2 (K : PySem.W.Frag) (g : D → D → Hd → R D) (r : R2) : Prop := ∀ (E : XD) ι H h x y dx dy Q, Rep K ι H x dx → Rep K ι H y dy → HRep K ι H h → out K E (repD K) ι H (g dx dy h) Q → r x y H Q
def Snd1 (K : PySem.W.Frag) (g : D → Hd → R D) (r : V → Hp → VK → Prop) : Prop := ∀ (E : XD) ι H h x dx Q, Rep K ι H x dx → HRep K ι H h → out K E (repD K) ι H (g dx h) Q → r x H Q
def SndL (K : PySem.W.Frag) (g : List D → Hd → R D) (r : List V → Hp → VK → Prop) : Prop := ∀ (E : XD) ι H h xs ds Q, Reps K ι H xs ds → HRep K ι H h → out K E (repD K) ι H (g ds h) Q → r xs H Q
theorem bin2 {g : D → D → Hd → R D} {r : R2} {K : PySem.W.Frag} (hs : Snd2 K g r) {σ : St} {H : Hp} {Q : VK} (q : lift K E (repD K) (s2 g fa fb) σ H Q) : tOp r (lift K E (repD K) fa) (lift K E (repD K) fb) σ H Q := by
  obtain ⟨ι, τ, h, S, Rh, o⟩ := q
  refine ⟨ι, τ, h, S, Rh, out_bind o fun d h1 ι1 H1 v g1 r1 hr1 o1 => ?_⟩
  refine ⟨ι1, τ, h1, S.mono g1, hr1, out_bind o1 fun d2 h2 ι2 H2 u g2 r2 hr2 o2 => ?_⟩
  exact hs E ι2 H2 h2 v u d d2 Q (r1.mono g2) r2 hr2 o2
theorem me_op {op : Operator} {r : R2} {g : D → D → Hd → R D} (ho : OpR X (binaryOp op) r) (hs : Snd2 X.K g r) (ha : ME X E a fa) (hb : ME X E b fb) : ME X E (.BinOp a op b pos) (s2 g fa fb) :=
  PE.weak (pe_op ho ha hb) fun σ H Q q => bin2 hs q
theorem me_cmpO {op : CmpOp} {r : R2} {g : D → D → Hd → R D} (ho : OpR X (compareOp op) r) (hs : Snd2 X.K g r) (ha : ME X E a fa) (hb : ME X E b fb) (hm : behindInMarks op b = false) : ME X E (.Compare a [op] [b] pos) (s2 g fa fb) :=
  PE.weak (pe_cmpR ho ha hb hm) fun σ H Q q => bin2 hs q
theorem me_un {op : UnaryOp} {r : V → Hp → VK → Prop} {g : D → Hd → R D} (ho : UnR X (unaryOp op) r) (hs : Snd1 X.K g r) (ha : ME X E a fa) : ME X E (.UnaryOp op a pos) (s1 g fa) := by
  refine PE.weak (pe_un ho ha) fun σ H Q ⟨ι, τ, h, S, Rh, o⟩ => ?_
  exact ⟨ι, τ, h, S, Rh, out_bind o fun d h1 ι1 H1 v g1 r1 hr1 o1 => hs E ι1 H1 h1 v d Q r1 hr1 o1⟩
theorem me_ix {r : R2} {g : D → D → Hd → R D} (ho : IxR X r) (hs : Snd2 X.K g r) (ha : ME X E a fa) (hb : ME X E b fb) (hp : PlainIx b) : ME X E (.Subscript a b pos) (s2 g fa fb) :=
  PE.weak (pe_ix ho ha hb hp) fun σ H Q q => bin2 hs q
def asB (d : D) (h : Hd) : R Bool := match d with | .bl b => .ok b h | _ => .no
def sT (f : SE) : ST := fun τ h => (f τ h).bind asB
theorem test_of {K : PySem.W.Frag} {t : TE} {f : SE} (hi : ∀ σ H Q, lift K E (repD K) f σ H Q → t σ H Q) {σ : St} {H : Hp} {Q : Bool → Hp → Prop} (q : lift K E repB (sT f) σ H Q) : tTest t σ H Q := by
  refine hi σ H _ ?_
  obtain ⟨ι, τ, h, S, Rh, o⟩ := q
  refine ⟨ι, τ, h, S, Rh, out_bind o fun d h1 ι1 H1 v g1 r1 hr1 o1 => ?_⟩
  cases r1 with
  | bl b => exact ⟨b, rfl, o1 ι1 H1 b (.refl _ _) rfl hr1⟩
  | _ => exact o1.elim
theorem mt_cmpO {op : CmpOp} {r : R2} {g : D → D → Hd → R D} (ho : OpR X (compareOp op) r) (hs : Snd2 X.K g r) (ha : ME X E a fa) (hb : ME X E b fb) (hm : behindInMarks op b = false) : MT X E (.Compare a [op] [b] pos) (sT (s2 g fa fb)) :=
  PT.weak (pt_cmpR ho ha hb hm) fun σ H Q q => test_of (fun _ _ _ => bin2 hs) q
def sCh (g g' : D → D → Hd → R D) (fa fb fc : SE) : SE := fun τ h => (fa τ h).bind fun x h1 => (fb τ h1).bind fun y h2 => (g x y h2).bind fun z h3 => match z with
  | .bl true => (fc τ h3).bind fun w h4 => g' y w h4
  | .bl false => .ok (.bl false) h3
  | _ => .no
theorem chain2 {K : PySem.W.Frag} {g g' : D → D → Hd → R D} {r r' : R2} (hs : Snd2 K g r) (hs' : Snd2 K g' r') {σ : St} {H : Hp} {Q : VK} (q : lift K E (repD K) (sCh g g' fa fb fc) σ H Q) :
    tChain r r' (lift K E (repD K) fa) (lift K E (repD K) fb) (lift K E (repD K) fc) σ H Q := by
  obtain ⟨ι, τ, h, S, Rh, o⟩ := q
  refine ⟨ι, τ, h, S, Rh, out_bind o fun d h1 ι1 H1 v g1 r1 hr1 o1 => ?_⟩
  refine ⟨ι1, τ, h1, S.mono g1, hr1, out_bind o1 fun d2 h2 ι2 H2 u g2 r2 hr2 o2 => ?_⟩
  refine hs E ι2 H2 h2 v u d d2 _ (r1.mono g2) r2 hr2 (out_bind o2 fun d3 h3 ι3 H3 z g3 r3 hr3 o3 => ?_)
  cases r3 with
  | bl k =>
    refine ⟨k, rfl, ?_⟩
    cases k with
    | true =>
      rw [if_pos rfl]
      refine ⟨ι3, τ, h3, ((S.mono g1).mono g2).mono g3, hr3, out_bind o3 fun d4 h4 ι4 H4 w g4 r4 hr4 o4 => ?_⟩
      exact hs' E ι4 H4 h4 u w d2 d4 Q ((r2.mono g3).mono g4) r4 hr4 o4
    | false =>
      rw [if_neg Bool.false_ne_true]
      exact o3 ι3 H3 (.bl false) (.refl _ _) (.bl false) hr3
  | _ => exact o3.elim
theorem me_chain {op op' : CmpOp} {r r' : R2} {g g' : D → D → Hd → R D} (ho : OpR X (compareOp op) r) (ho' : OpR X (compareOp op') r') (hs : Snd2 X.K g r) (hs' : Snd2 X.K g' r') (ha : ME X E a fa) (hb : ME X E b fb) (hc : ME X E c fc)
    (hm : lastMarks [op, op'] [b, c] = false := by with_unfolding_all rfl) : ME X E (.Compare a [op, op'] [b, c] pos) (sCh g g' fa fb fc) :=
  PE.weak (pe_chain ho ho' ha hb hc hm) fun σ H Q q => chain2 hs hs' q
theorem mt_chain {op op' : CmpOp} {r r' : R2} {g g' : D → D → Hd → R D} (ho : OpR X (compareOp op) r) (ho' : OpR X (compareOp op') r') (hs : Snd2 X.K g r) (hs' : Snd2 X.K g' r') (ha : ME X E a fa) (hb : ME X E b fb) (hc : ME X E c fc)
    (hm : lastMarks [op, op'] [b, c] = false := by with_unfolding_all rfl) : MT X E (.Compare a [op, op'] [b, c] pos) (sT (sCh g g' fa fb fc)) :=
  PT.weak (pt_chain ho ho' ha hb hc hm) fun σ H Q q => test_of (fun _ _ _ => chain2 hs hs') q
def tru (d : D) (h : Hd) : R Bool := match d with
  | .non => .ok false h
  | .bl b => .ok b h
  | .int i => .ok (i != 0) h
  | .str x => if x.length ≤ LINE then .ok ((x.length : Int) != 0) h else .no
  | .tup xs => .ok (!xs.isEmpty) h
  | .rol xs => .ok (!xs.isEmpty) h
  | .ref i => match h[i]? with
    | some (.lst xs) => .ok (!xs.isEmpty) h
    | some (.dK kvs) => .ok (!kvs.isEmpty) h
    | none => .no
  | .ty _ => .no
theorem Reps.emp {K : PySem.W.Frag} {ι : List Addr} {H : Hp} {vs : List V} {ds : List D} (r : Reps K ι H vs ds) : vs.isEmpty = ds.isEmpty := by cases r <;> rfl
theorem KRep.emp {K : PySem.W.Frag} {ι : List Addr} {H : Hp} {us : List (Key × V)} {kvs : List (Key × D)} (r : KRep K ι H us kvs) : us.isEmpty = kvs.isEmpty := by
  have := congrArg List.length r.1
  cases us <;> cases kvs <;> simp at this ⊢
theorem tru_snd {K : PySem.W.Frag} {ι : List Addr} {H : Hp} {h : Hd} {x : V} {d : D} {Q : Bool → Hp → Prop} (r : Rep K ι H x d) (hr : HRep K ι H h) (o : out K E repB ι H (tru d h) Q) : ∃ k, TruV K x H k ∧ Q k H := by
  cases r with
  | non => exact ⟨false, rfl, o ι H _ (.refl _ _) rfl hr⟩
  | bl b => exact ⟨b, rfl, o ι H _ (.refl _ _) rfl hr⟩
  | int i => exact ⟨_, rfl, o ι H _ (.refl _ _) rfl hr⟩
  | str x =>
    by_cases hl : x.length ≤ LINE
    · simp only [tru, if_pos hl] at o
      exact ⟨_, ⟨ll hl, rfl⟩, o ι H _ (.refl _ _) rfl hr⟩
    · simp only [tru, if_neg hl] at o
      exact o.elim
  | ty n => exact o.elim
  | tup e rs => exact ⟨_, .inr (.inl ⟨_, SqT.of e, rfl⟩), by rw [rs.emp]; exact o ι H _ (.refl _ _) rfl hr⟩
  | rol e rs => exact ⟨_, .inl ⟨_, e.l, rfl⟩, by rw [rs.emp]; exact o ι H _ (.refl _ _) rfl hr⟩
  | @ref a i e =>
    obtain ⟨ob, h1, h2⟩ := hr.at e
    simp only [tru, h1] at o
    cases ob with
    | lst xs =>
      obtain ⟨vs, h3, h4⟩ := h2
      exact ⟨_, .inl ⟨_, SqL.of h3, rfl⟩, by rw [h4.emp]; exact o ι H _ (.refl _ _) rfl hr⟩
    | dK kvs =>
      obtain ⟨us, h3, h4⟩ := h2
      exact ⟨_, .inr (.inr ⟨_, h3, rfl⟩), by rw [h4.emp]; exact o ι H _ (.refl _ _) rfl hr⟩
def sTru (f : SE) : ST := fun τ h => (f τ h).bind tru
theorem mt_val (ha : ME X E a fa) (he : ∀ whole, isTrue a X.env whole = (do let v ← whole; standAt a.pos; holding [v] (truthy v)) := by intro _; rfl) : MT X E a (sTru fa) := by
  refine PT.weak (pt_truth ha he) fun σ H Q ⟨ι, τ, h, S, Rh, o⟩ => ?_
  exact ⟨ι, τ, h, S, Rh, out_bind o fun d h1 ι1 H1 v g1 r1 hr1 o1 => tru_snd r1 hr1 o1⟩
def sAnd (f g : ST) : ST := fun τ h => (f τ h).bind fun b h1 => if b = true then g τ h1 else .ok false h1
def sOr (f g : ST) : ST := fun τ h => (f τ h).bind fun b h1 => if b = true then .ok true h1 else g τ h1
def sNot (f : ST) : ST := fun τ h => (f τ h).bind fun b h1 => .ok (!b) h1
variable {ga gb : ST}
theorem mw_and1 (ha : MT X E a ga) : MW X E (.BoolOp .And [a] pos) ga := pw_and1 ha
theorem mw_or1 (ha : MT X E a ga) : MW X E (.BoolOp .Or [a] pos) ga := pw_or1 ha
theorem mw_and {rest : List Expr} (ha : MT X E a ga) (hb : MW X E (.BoolOp .And (b :: rest) pos) gb) : MW X E (.BoolOp .And (a :: b :: rest) pos) (sAnd ga gb) := by
  refine PW.weak (pw_and ha hb) fun σ H Q ⟨ι, τ, h, S, Rh, o⟩ => ?_
  refine ⟨ι, τ, h, S, Rh, out_bind o fun d h1 ι1 H1 v g1 r1 hr1 o1 => ?_⟩
  cases r1
  cases d with
  | true => exact ⟨ι1, τ, h1, S.mono g1, hr1, o1⟩
  | false => exact o1 ι1 H1 false (.refl _ _) rfl hr1
theorem mw_or {rest : List Expr} (ha : MT X E a ga) (hb : MW X E (.BoolOp .Or (b :: rest) pos) gb) : MW X E (.BoolOp .Or (a :: b :: rest) pos) (sOr ga gb) := by
  refine PW.weak (pw_or ha hb) fun σ H Q ⟨ι, τ, h, S, Rh, o⟩ => ?_
  refine ⟨ι, τ, h, S, Rh, out_bind o fun d h1 ι1 H1 v g1 r1 hr1 o1 => ?_⟩
  cases r1
  cases d with
  | true => exact o1 ι1 H1 true (.refl _ _) rfl hr1
  | false => exact ⟨ι1, τ, h1, S.mono g1, hr1, o1⟩
theorem mt_not (ha : MT X E a ga) : MT X E (.UnaryOp .Not a pos) (sNot ga) := by
  refine PT.weak (pt_not ha) fun σ H Q ⟨ι, τ, h, S, Rh, o⟩ => ?_
  refine ⟨ι, τ, h, S, Rh, out_bind o fun d h1 ι1 H1 v g1 r1 hr1 o1 => ?_⟩
  cases r1
  exact o1 ι1 H1 _ (.refl _ _) rfl hr1
def sAndV (f g : SE) : SE := fun τ h => (f τ h).bind fun d h1 => match d with | .bl true => g τ h1 | .bl false => .ok (.bl false) h1 | _ => .no
def sOrV (f g : SE) : SE := fun τ h => (f τ h).bind fun d h1 => match d with | .bl true => .ok (.bl true) h1 | .bl false => g τ h1 | _ => .no
def sNotV (f : SE) : SE := fun τ h => (f τ h).bind fun d h1 => match d with | .bl b => .ok (.bl (!b)) h1 | _ => .no
theorem me_one {op} (ha : ME X E a fa) : ME X E (.BoolOp op [a] pos) fa := pe_one ha
theorem me_and {rest : List Expr} (ha : ME X E a fa) (hb : ME X E (.BoolOp .And (b :: rest) pos) fb) : ME X E (.BoolOp .And (a :: b :: rest) pos) (sAndV fa fb) := by
  refine PE.weak (pe_and ha hb) fun σ H Q ⟨ι, τ, h, S, Rh, o⟩ => ?_
  refine ⟨ι, τ, h, S, Rh, out_bind o fun d h1 ι1 H1 v g1 r1 hr1 o1 => ?_⟩
  cases r1 with
  | bl k =>
    refine ⟨k, rfl, ?_⟩
    cases k with
    | true => exact ⟨ι1, τ, h1, S.mono g1, hr1, o1⟩
    | false => exact o1 ι1 H1 _ (.refl _ _) (.bl _) hr1
  | _ => exact o1.elim
theorem me_not (ha : ME X E a fa) : ME X E (.UnaryOp .Not a pos) (sNotV fa) := by
  refine PE.weak (pe_not ha) fun σ H Q ⟨ι, τ, h, S, Rh, o⟩ => ?_
  refine ⟨ι, τ, h, S, Rh, out_bind o fun d h1 ι1 H1 v g1 r1 hr1 o1 => ?_⟩
  cases r1 with
  | bl k => exact ⟨k, rfl, o1 ι1 H1 _ (.refl _ _) (.bl _) hr1⟩
  | _ => exact o1.elim
def sIfE (c : ST) (f g : SE) : SE := fun τ h => (c τ h).bind fun b h1 => if b = true then f τ h1 else g τ h1
def sNil : SA := fun _ h => .ok [] h
def sCons (f : SE) (g : SA) : SA := fun τ h => (f τ h).bind fun d h1 => (g τ h1).bind fun ds h2 => .ok (d :: ds) h2
variable {es : List Expr} {ka : SA}
theorem ma_nil : MA X E [] sNil := PA.weak pa_nil fun σ H Q ⟨ι, τ, h, S, Rh, o⟩ => o ι H [] (.refl _ _) .nil Rh
theorem ma_cons (ha : ME X E e fa) (hr : MA X E es ka) (hs : starEach (e :: es) X.env = (false, eval e X.env) :: starEach es X.env := by rfl) : MA X E (e :: es) (sCons fa ka) := by
  refine PA.weak (pa_cons ha hr hs) fun σ H Q ⟨ι, τ, h, S, Rh, o⟩ => ?_
  refine ⟨ι, τ, h, S, Rh, out_bind o fun d h1 ι1 H1 v g1 r1 hr1 o1 => ?_⟩
  refine ⟨ι1, τ, h1, S.mono g1, hr1, out_bind o1 fun d2 h2 ι2 H2 u g2 r2 hr2 o2 => ?_⟩
  exact o2 ι2 H2 _ (.refl _ _) (.cons (r1.mono g2) r2) hr2
def gTup (ds : List D) (h : Hd) : R D := if ds.length ≤ LINE then .ok (.tup ds) h else .no
def gLst (ds : List D) (h : Hd) : R D := if ds.length ≤ LINE then .ok (.ref h.length) (h ++ [.lst ds]) else .no
def sA (g : List D → Hd → R D) (k : SA) : SE := fun τ h => (k τ h).bind g
theorem new_tup {K : PySem.W.Frag} {ι : List Addr} {H : Hp} {h : Hd} {vs : List V} {ds : List D} {Q : VK} (r : Reps K ι H vs ds) (hr : HRep K ι H h) (o : out K E (repD K) ι H (.ok (.tup ds) h) Q) : ∀ p, H p = none → Q (.ref p) (upd H p (.tup vs)) := fun p hp =>
  o ι _ _ (gr_new hp _) (.tup upd_same (r.mono (gr_new hp _))) (hr.aside hp _)
theorem new_lst {K : PySem.W.Frag} {ι : List Addr} {H : Hp} {h : Hd} {vs : List V} {ds : List D} {Q : VK} (r : Reps K ι H vs ds) (hr : HRep K ι H h) (o : out K E (repD K) ι H (.ok (.ref h.length) (h ++ [.lst ds])) Q) : ∀ p, H p = none → Q (.ref p) (upd H p (.lst vs)) := fun p hp =>
  o (ι ++ [p]) _ _ (gr_add hp _) (.ref (by rw [List.getElem?_append_right (by rw [hr.len]; exact Nat.le_refl _), hr.len]; simp)) (hr.add hp ⟨_, upd_same, r.mono (gr_add hp _)⟩)
theorem put_lst {K : PySem.W.Frag} {ι : List Addr} {H : Hp} {h : Hd} {i : Nat} {a : Addr} {vs : List V} {ds : List D} {d : D} {v : V} {Q : VK} (r : Reps K ι H vs ds) (hr : HRep K ι H h) (hi : ι[i]? = some a) (rd : Rep K ι H v d) (o : out K E (repD K) ι H (.ok d (h.set i (.lst ds))) Q) : Q v (upd H a (.lst vs)) :=
  o ι _ _ (gr_put hr hi _) (rd.mono (gr_put hr hi _)) (hr.put hi ⟨_, upd_same, r.mono (gr_put hr hi _)⟩)
theorem me_tup {x1} (h : MA X E es ka) : ME X E (.Tuple es x1 pos) (sA gTup ka) := by
  refine PE.weak (pe_tup h) fun σ H Q ⟨ι, τ, h, S, Rh, o⟩ => ?_
  refine ⟨ι, τ, h, S, Rh, out_bind o fun d h1 ι1 H1 v g1 r1 hr1 o1 => ?_⟩
  unfold gTup at o1
  split at o1
  · rename_i hl
    exact ⟨ll (by rw [r1.len]; exact hl), new_tup r1 hr1 o1⟩
  · exact o1.elim
theorem me_lst (h : MA X E es ka) : ME X E (.List es pos) (sA gLst ka) := by
  refine PE.weak (pe_lst h) fun σ H Q ⟨ι, τ, h, S, Rh, o⟩ => ?_
  refine ⟨ι, τ, h, S, Rh, out_bind o fun d h1 ι1 H1 v g1 r1 hr1 o1 => ?_⟩
  unfold gLst at o1
  split at o1
  · rename_i hl
    exact ⟨ll (by rw [r1.len]; exact hl), new_lst r1 hr1 o1⟩
  · exact o1.elim
theorem me_fn {x : Str} {p : Pos} {id : String} {r : List V → Hp → VK → Prop} {g : List D → Hd → R D} (hc : CallR X (.builtin id) r) (hs : SndL X.K g r) (hg : Gl X x) (hm : X.mg x = none) (hv : bootBuiltins x = some (.builtin id)) (ha : MA X E (e :: es) ka) (hn : x ≠ "__name__" := by decide) (hdb : (x == ("__debug__" : Str)) = false := by decide)
    (he : starEach (e :: es) X.env = (false, eval e X.env) :: starEach es X.env := by rfl) (hpl : (backTo pos (starEach es X.env)).any (·.1) = false := by rfl) : ME X E (.Call (.Name x p) (e :: es) [] pos) (sA g ka) := by
  refine PE.weak (pe_callB hc hg hm hv ha hn hdb he hpl) fun σ H Q ⟨ι, τ, h, S, Rh, o⟩ => ?_
  exact ⟨ι, τ, h, S, Rh, out_bind o fun d h1 ι1 H1 v g1 r1 hr1 o1 => hs E ι1 H1 h1 v d Q r1 hr1 o1⟩
theorem me_fnTy {x : Str} {p : Pos} {id : String} {r : List V → Hp → VK → Prop} {g : List D → Hd → R D} (hc : CallR X (.type id) r) (hs : SndL X.K g r) (hg : Gl X x) (hm : X.mg x = none) (hv : bootBuiltins x = some (.type id)) (ha : MA X E (e :: es) ka) (hn : x ≠ "__name__" := by decide) (hdb : (x == ("__debug__" : Str)) = false := by decide)
    (he : starEach (e :: es) X.env = (false, eval e X.env) :: starEach es X.env := by rfl) (hpl : (backTo pos (starEach es X.env)).any (·.1) = false := by rfl) : ME X E (.Call (.Name x p) (e :: es) [] pos) (sA g ka) := by
  refine PE.weak (pe_callTy hc hg hm hv ha hn hdb he hpl) fun σ H Q ⟨ι, τ, h, S, Rh, o⟩ => ?_
  exact ⟨ι, τ, h, S, Rh, out_bind o fun d h1 ι1 H1 v g1 r1 hr1 o1 => hs E ι1 H1 h1 v d Q r1 hr1 o1⟩
end
end MI
set_option Elab.async false
set_option linter.all false
set_option maxRecDepth 100000
set_option maxHeartbeats 4000000
namespace MI
open PySem L2
def sSeq (f g : SS) : SS := fun τ h => match f τ h with | .nx τ1 h1 => g τ1 h1 | r => r
def sNx : SS := fun τ h => .nx τ h
def sRet (f : SE) : SS := fun τ h => (f τ h).fl fun d h1 => .rt d h1
def sDrop (f : SE) : SS := fun τ h => (f τ h).fl fun _ h1 => .nx τ h1
def sIf (c : ST) (f g : SS) : SS := fun τ h => (c τ h).fl fun b h1 => if b = true then f τ h1 else g τ h1
def sSet (i : Nat) (f : SE) : SS := fun τ h => (f τ h).fl fun d h1 => .nx (τ.set i (some d)) h1
def sAug (i : Nat) (g : D → D → Hd → R D) (f : SE) : SS := fun τ h => match τ[i]? with
  | some (some x) => (f τ h).fl fun y h1 => (g x y h1).fl fun z h2 => .nx (τ.set i (some z)) h2
  | _ => .no
section
variable {X : Cx} {E : XD} {e o : Expr} {es : List Expr} {fa fb fc : SE} {ga : ST} {st : Stmt} {sts a b : List Stmt} {f g : SS} {pos : Pos}
theorem mss_nil : MSs X E [] sNx := PSs.weak pss_nil fun N σ H ⟨ι, τ, h, S, Rh, o⟩ => o ι H σ (.refl _ _) S Rh
theorem seq_of {K : PySem.W.Frag} {N : Ends} {σ : St} {H : Hp} (q : liftS K E (sSeq f g) N σ H) : liftS K E f { N with nx := liftS K E g N } σ H := by
  obtain ⟨ι, τ, h, S, Rh, o⟩ := q
  refine ⟨ι, τ, h, S, Rh, ?_⟩
  unfold sSeq at o
  cases hf : f τ h with
  | nx τ1 h1 =>
    rw [hf] at o
    exact fun ι1 H1 σ1 g1 S1 R1 => ⟨ι1, τ1, h1, S1, R1, outS_mono o g1⟩
  | _ => rw [hf] at o; exact o
theorem mss_cons (h1 : MS X E st f) (h2 : MSs X E sts g) : MSs X E (st :: sts) (sSeq f g) := PSs.weak (pss_cons h1 h2) fun N σ H q => seq_of q
theorem mss_one (h1 : MS X E st f) : MSs X E [st] f := pss_one h1
theorem ms_ret (he : ME X E e fa) : MS X E (.Return (some e) pos) (sRet fa) := by
  refine PS.weak (ps_ret he) fun N σ H ⟨ι, τ, h, S, Rh, o⟩ => ?_
  exact ⟨ι, τ, h, S, Rh, out_fl o fun d h1 ι1 H1 v g1 r1 hr1 o1 => o1 ι1 H1 v (.refl _ _) r1 hr1⟩
theorem ms_expr (he : ME X E e fa) (hs : swapsWith e none pos.line X.env = pure false := by rfl) : MS X E (.Expr e pos) (sDrop fa) := by
  refine PS.weak (ps_expr he hs) fun N σ H ⟨ι, τ, h, S, Rh, o⟩ => ?_
  exact ⟨ι, τ, h, S, Rh, out_fl o fun d h1 ι1 H1 v g1 r1 hr1 o1 => o1 ι1 H1 σ (.refl _ _) (S.mono g1) hr1⟩
theorem ms_if {c : Expr} (hc : MT X E c ga) (ha : MSs X E a f) (hb : MSs X E b g) : MS X E (.If c a b pos) (sIf ga f g) := by
  refine PS.weak (ps_if hc ha hb) fun N σ H ⟨ι, τ, h, S, Rh, o⟩ => ?_
  refine ⟨ι, τ, h, S, Rh, out_fl o fun d h1 ι1 H1 v g1 r1 hr1 o1 => ?_⟩
  cases r1
  cases d with
  | true => exact ⟨ι1, τ, h1, S.mono g1, hr1, o1⟩
  | false => exact ⟨ι1, τ, h1, S.mono g1, hr1, o1⟩
theorem ms_set {i : Nat} {x : Str} {pos' : Pos} (hN : X.N.Nodup) (hi : X.N[i]? = some x) (hx : Loc X.env.scope x) (he : ME X E e fa) (hs : swapsWith e (some (.Name x pos')) pos.line X.env = pure false := by rfl) (hf : X.fn x = true ∨ X.env.scope.names.lookup x = some .local := by first | exact .inl rfl | exact .inr rfl | assumption) :
    MS X E (.Assign [.Name x pos'] e pos) (sSet i fa) := by
  refine PS.weak (ps_set hN hi hx he hs hf) fun N σ H ⟨ι, τ, h, S, Rh, o⟩ => ?_
  exact ⟨ι, τ, h, S, Rh, out_fl o fun d h1 ι1 H1 v g1 r1 hr1 o1 => o1 ι1 H1 _ (.refl _ _) ((S.mono g1).set r1 i) hr1⟩
theorem ms_aug {i : Nat} {x : Str} {op : Operator} {r : R2} {gg : D → D → Hd → R D} {pos' : Pos} (hN : X.N.Nodup) (hi : X.N[i]? = some x) (hx : Loc X.env.scope x) (ho : OpR X (inplaceOp op) r) (hs : Snd2 X.K gg r) (he : ME X E e fa) (hf : X.fn x = true ∨ X.env.scope.names.lookup x = some .local := by first | exact .inl rfl | exact .inr rfl | assumption) :
    MS X E (.AugAssign (.Name x pos') op e pos) (sAug i gg fa) := by
  refine PS.weak (ps_aug hN hi hx he ho hf) fun N σ H ⟨ι, τ, h, S, Rh, o⟩ => ?_
  unfold sAug at o
  split at o
  · rename_i d ed
    obtain ⟨v, h1, h2⟩ := S.val i d ed
    refine ⟨v, h1, ι, τ, h, S, Rh, out_fl o fun d2 h3 ι1 H1 u g1 r1 hr1 o1 => ?_⟩
    refine hs E ι1 H1 h3 v u d d2 _ (h2.mono g1) r1 hr1 (out_fl o1 fun d3 h4 ι2 H2 z g2 r2 hr2 o2 => ?_)
    exact o2 ι2 H2 _ (.refl _ _) (((S.mono g1).mono g2).set r2 i) hr2
  · exact o.elim
def put (o k v : D) (h : Hd) : Option Hd := match o, k with
  | .ref i, .int j => match h[i]? with
    | some (.lst xs) => match ixN xs.length j with
      | some m => some (h.set i (.lst (xs.set m v)))
      | none => none
    | _ => none
  | _, _ => none
theorem put_snd {K : PySem.W.Frag} {ι : List Addr} {H : Hp} {h h' : Hd} {o k v : V} {od kd vd : D} {Q : Hp → Prop} (r1 : Rep K ι H o od) (r2 : Rep K ι H k kd) (r3 : Rep K ι H v vd) (hr : HRep K ι H h) (e : put od kd vd h = some h')
    (q : ∀ H', Gr ι H ι H' → HRep K ι H' h' → Q H') : rSetL o k v H Q := by
  cases r1 with
  | @ref a i ha =>
    cases r2 with
    | int j =>
      obtain ⟨ob, h1, h2⟩ := hr.at ha
      cases ob with
      | lst xs =>
        obtain ⟨vs, h3, h4⟩ := h2
        simp only [put, h1] at e
        cases hm : ixN xs.length j with
        | none => rw [hm] at e; cases e
        | some m =>
          rw [hm] at e
          cases e
          exact ⟨a, vs, j, m, rfl, rfl, h3, by rw [h4.len]; exact hm, q _ (gr_put hr ha _) (hr.put ha ⟨_, upd_same, (h4.set r3 m).mono (gr_put hr ha _)⟩)⟩
      | dK _ => simp only [put, h1] at e; cases e
    | _ => cases e
  | _ => cases e
def sPut (fe fo fi : SE) : SS := fun τ h => (fe τ h).fl fun v h1 => (fo τ h1).fl fun o h2 => (fi τ h2).fl fun k h3 => match put o k v h3 with | some h4 => .nx τ h4 | none => .no
theorem ms_put {i : Expr} {pos' : Pos} (he : ME X E e fa) (ho : ME X E o fb) (hi : ME X E i fc)
    (hs : swapsWithSole [.Subscript o i pos'] e pos.line X.env = pure false := by rfl) (hw : swappedStores [.Subscript o i pos'] e X.env = pure none := by rfl)
    (h1 : (assignEach [.Subscript o i pos'] X.env).map (·.2) = [assign (.Subscript o i pos') X.env] := by rfl)
    (ha : ∀ v, assign (.Subscript o i pos') X.env v = (do
      let ov ← holding [v] (eval o X.env)
      let iv ← holding [v, ov] (eval i X.env)
      standAt pos'
      holding [v, ov, iv] (setItem ov iv v)
      release [v, ov, iv] []) := by intro _; rfl) : MS X E (.Assign [.Subscript o i pos'] e pos) (sPut fa fb fc) := by
  refine PS.weak (ps_asg he (pg_sub ho hi set_list ha) hs hw h1) fun N σ H ⟨ι, τ, h, S, Rh, oo⟩ => ?_
  refine ⟨ι, τ, h, S, Rh, out_fl oo fun d h1 ι1 H1 v g1 r1 hr1 o1 => ?_⟩
  refine ⟨ι1, τ, h1, S.mono g1, hr1, out_fl o1 fun d2 h2 ι2 H2 u g2 r2 hr2 o2 => ?_⟩
  refine ⟨ι2, τ, h2, (S.mono g1).mono g2, hr2, out_fl o2 fun d3 h3 ι3 H3 w g3 r3 hr3 o3 => ?_⟩
  cases hp : put d2 d3 d h3 with
  | none => rw [hp] at o3; exact o3.elim
  | some h4 =>
    rw [hp] at o3
    exact put_snd (r2.mono g3) r3 ((r1.mono g2).mono g3) hr3 hp fun H' g4 hr4 => o3 ι3 H' σ g4 ((((S.mono g1).mono g2).mono g3).mono g4) hr4
def sWh (c : ST) (f : SS) : Nat → SS
  | 0, _, _ => .no
  | n + 1, τ, h => (c τ h).fl fun b h1 => if b = true then (match f τ h1 with | .nx τ2 h2 => sWh c f n τ2 h2 | .ct τ2 h2 => sWh c f n τ2 h2 | .bk τ2 h2 => .nx τ2 h2 | r => r) else .nx τ h1
theorem ms_while (n : Nat) {c : Expr} (hp : PassesOwn (model X.prog X.w) X.A X.env X.xe) (hc : MT X E c ga) (hb : MSs X E a f) : MS X E (.While c a [] pos) (sWh ga f n) := by
  refine PS.weak (ps_while hp hc hb) fun N σ H q => ?_
  refine ⟨fun m σ H => liftS X.K E (sWh ga f m) N σ H, ⟨n, q⟩, ?_⟩
  rintro m σ1 H1 ⟨ι, τ, h, S, Rh, o⟩
  cases m with
  | zero => exact o.elim
  | succ m =>
    refine ⟨ι, τ, h, S, Rh, out_fl o fun d h1 ι1 H1 v g1 r1 hr1 o1 => ?_⟩
    cases r1
    cases d with
    | false => exact o1 ι1 H1 _ (.refl _ _) (S.mono g1) hr1
    | true =>
      refine ⟨fun σ' H' => liftS X.K E (sWh ga f m) N σ' H', fun σ' H' q => ⟨m, Nat.lt_succ_self m, q⟩, ι1, τ, h1, S.mono g1, hr1, ?_⟩
      rw [if_pos rfl] at o1
      cases hf : f τ h1 with
      | nx τ2 h2 => rw [hf] at o1; exact fun ι2 H2 σ2 g2 S2 R2 => ⟨ι2, τ2, h2, S2, R2, outS_mono o1 g2⟩
      | ct τ2 h2 => rw [hf] at o1; exact fun ι2 H2 σ2 g2 S2 R2 => ⟨ι2, τ2, h2, S2, R2, outS_mono o1 g2⟩
      | bk τ2 h2 => rw [hf] at o1; exact o1
      | rt d h2 => rw [hf] at o1; exact o1
      | ex c h2 => rw [hf] at o1; exact o1
      | no => rw [hf] at o1; exact o1.elim
end
abbrev SG := D → Sd → Hd → Fl
def liftG (K : PySem.W.Frag) (E : XD) (g : SG) : TG := fun v σ H Q => ∃ ι τ h d, Rep K ι H v d ∧ SRep K ι H σ τ ∧ HRep K ι H h ∧ outS K E ι H (g d τ h) { nx := Q, rt := fun _ _ => False }
abbrev MG (X : Cx) (E : XD) (tg : Expr) (g : SG) : Prop := PG X tg (liftG X.K E g)
abbrev SGs := List D → Sd → Hd → Fl
theorem PG.weak {X : Cx} {e : Expr} {t t' : TG} (h : PG X e t) (i : ∀ v σ H Q, t' v σ H Q → t v σ H Q) : PG X e t' := fun pins s σ H v u Q I r q => h pins s σ H v u Q I r (i _ _ _ _ q)
theorem PGs.weak {X : Cx} {e : List Expr} {t t' : TGs} (h : PGs X e t) (i : ∀ v σ H Q, t' v σ H Q → t v σ H Q) : PGs X e t' := fun pins s σ H v u Q I r q => h pins s σ H v u Q I r (i _ _ _ _ q)
def kN (i : Nat) : SG := fun d τ h => .nx (τ.set i (some d)) h
def kNil : SGs := fun ds τ h => match ds with | [] => .nx τ h | _ => .no
def kCons (g : SG) (k : SGs) : SGs := fun ds τ h => match ds with | d :: r => (match g d τ h with | .nx τ1 h1 => k r τ1 h1 | _ => .no) | [] => .no
def kTup (n : Nat) (k : SGs) : SG := fun d τ h => match d with | .tup ds => if ds.length = n then k ds τ h else .no | _ => .no
section
variable {X : Cx} {E : XD} {e : Expr} {es : List Expr} {fa : SE} {pos : Pos} {g : SG} {ks : SGs}
theorem mg_name {i : Nat} {x : Str} (hN : X.N.Nodup) (hi : X.N[i]? = some x) (hx : Loc X.env.scope x) (hf : X.fn x = true ∨ X.env.scope.names.lookup x = some .local := by first | exact .inl rfl | exact .inr rfl | assumption) : MG X E (.Name x pos) (kN i) :=
  PG.weak (pg_name hN hi hx hf) fun v σ H Q ⟨ι, τ, h, d, r, S, Rh, o⟩ => o ι H _ (.refl _ _) (S.set r i) Rh
end
structure Itm where
  xs : List D
  ck : Hd → Prop
def IRep (K : PySem.W.Frag) (ι0 : List Addr) (H0 : Hp) (J : It) (it : Itm) : Prop := ∀ ι H h, Gr ι0 H0 ι H → HRep K ι H h → it.ck h →
  (∀ (i : Nat) (d : D), it.xs[i]? = some d → J.go i H ∧ ∀ x H', J.yld i H x H' → Gr ι H ι H' ∧ Rep K ι H' x d ∧ HRep K ι H' h) ∧ J.stop it.xs.length H
abbrev repI (K : PySem.W.Frag) : List Addr → Hp → It → Itm → Prop := fun ι H J it => IRep K ι H J it
abbrev SI := Sd → Hd → R Itm
abbrev MI (X : Cx) (E : XD) (tg iter : Expr) (f : SI) : Prop := PI X tg iter (lift X.K E (repI X.K) f)
def signsD (x : Str) : List D := x.cps.toList.map fun c => D.str ⟨#[c]⟩
def itOf (d : D) (h : Hd) : R Itm := match d with
  | .tup xs => .ok ⟨xs, fun _ => True⟩ h
  | .rol xs => .ok ⟨xs, fun _ => True⟩ h
  | .str x => .ok ⟨signsD x, fun _ => True⟩ h
  | .ref i => match h[i]? with
    | some (.lst xs) => .ok ⟨xs, fun h => h[i]? = some (.lst xs)⟩ h
    | _ => .no
  | _ => .no
def sIt (f : SE) : SI := fun τ h => (f τ h).bind itOf
theorem irep_l {K : PySem.W.Frag} {ι0 : List Addr} {H0 : Hp} {a : Addr} {xs : List D} {ck : Hd → Prop} (hl : ∀ ι H h, Gr ι0 H0 ι H → HRep K ι H h → ck h → ∃ vs, SqL K H a vs ∧ Reps K ι H vs xs) : IRep K ι0 H0 (Itl K a) ⟨xs, ck⟩ := by
  intro ι H h g hr c
  obtain ⟨vs, h1, h2⟩ := hl ι H h g hr c
  refine ⟨fun i d e => ?_, ⟨vs, h1, by rw [h2.len]; exact Nat.le_refl _⟩⟩
  obtain ⟨v, e1, r⟩ := h2.get e
  refine ⟨⟨vs, v, h1, e1⟩, fun x H' y => ?_⟩
  obtain ⟨rfl, y⟩ := y
  have := y vs h1
  rw [e1] at this; cases this
  exact ⟨.refl _ _, r, hr⟩
theorem mi_seq {X : Cx} {E : XD} {tg l : Expr} {f : SE} (hl : ME X E l f) : MI X E tg l (sIt f) := by
  intro pins s σ H Rr I ⟨ι, τ, h, S, Rh, o⟩
  unfold sIt at o
  cases hf : f τ h with
  | no => rw [hf] at o; exact o.elim
  | ex c h1 =>
    rw [hf] at o
    exact pi_str hl pins s σ H Rr I ⟨ι, τ, h, S, Rh, by rw [hf]; exact o⟩
  | ok d h1 =>
    rw [hf] at o
    cases d with
    | tup xs =>
      refine pi_tup hl pins s σ H Rr I ⟨ι, τ, h, S, Rh, ?_⟩
      rw [hf]
      intro ι1 H1 v g1 r1 hr1
      cases r1 with
      | @tup a vs _ e rs =>
        refine ⟨a, rfl, ⟨vs, SqT.of e⟩, o ι1 H1 _ g1 ?_ hr1⟩
        intro ι2 H2 h2 g2 hr2 _
        have e2 := g2.tup _ _ e
        have rs2 := rs.mono g2
        refine ⟨fun i d ed => ?_, ⟨vs, SqT.of e2, by rw [rs2.len]; exact Nat.le_refl _⟩⟩
        obtain ⟨v, e1, r⟩ := rs2.get ed
        refine ⟨⟨vs, v, SqT.of e2, e1⟩, fun x H' y => ?_⟩
        obtain ⟨rfl, y⟩ := y
        have := y vs (SqT.of e2)
        rw [e1] at this; cases this
        exact ⟨.refl _ _, r, hr2⟩
    | rol xs =>
      refine pi_list hl pins s σ H Rr I ⟨ι, τ, h, S, Rh, ?_⟩
      rw [hf]
      intro ι1 H1 v g1 r1 hr1
      cases r1 with
      | @rol a vs _ e rs =>
        refine ⟨a, rfl, ⟨vs, e.l⟩, o ι1 H1 _ g1 ?_ hr1⟩
        exact irep_l (fun ι2 H2 h2 g2 hr2 _ => ⟨vs, (e.mono g2).l, rs.mono g2⟩)
    | str x =>
      refine pi_str hl pins s σ H Rr I ⟨ι, τ, h, S, Rh, ?_⟩
      rw [hf]
      intro ι1 H1 v g1 r1 hr1
      cases r1
      refine ⟨x, rfl, o ι1 H1 _ g1 ?_ hr1⟩
      intro ι2 H2 h2 g2 hr2 _
      refine ⟨fun i d ed => ?_, by show (signsD x).length = _; simp [signsD]⟩
      simp only [signsD, List.getElem?_map, Option.map_eq_some_iff] at ed
      obtain ⟨c, ec, rfl⟩ := ed
      refine ⟨by show i < x.cps.size; have := (List.getElem?_eq_some_iff.mp ec).1; simpa using this, fun y H' q => ?_⟩
      obtain ⟨rfl, c', ec', rfl⟩ := q
      rw [ec] at ec'; cases ec'
      exact ⟨.refl _ _, .str _, hr2⟩
    | ref i =>
      simp only [R.bind, itOf] at o
      cases ho : h1[i]? with
      | none => rw [ho] at o; exact o.elim
      | some ob =>
        rw [ho] at o
        cases ob with
        | dK _ => exact o.elim
        | lst xs =>
          refine pi_list hl pins s σ H Rr I ⟨ι, τ, h, S, Rh, ?_⟩
          rw [hf]
          intro ι1 H1 v g1 r1 hr1
          cases r1 with
          | @ref a _ e =>
            obtain ⟨vs, e1, rs⟩ := hr1.obj i a _ e ho
            refine ⟨a, rfl, ⟨vs, SqL.of e1⟩, o ι1 H1 _ g1 ?_ hr1⟩
            refine irep_l (fun ι2 H2 h2 g2 hr2 c => ?_)
            obtain ⟨us, e3, rs3⟩ := hr2.obj i a _ (g2.at e) c
            exact ⟨us, SqL.of e3, rs3⟩
    | _ => exact o.elim
def rng (lo : Int) (n : Nat) : List D := (List.range n).map fun i => D.int (lo + (i : Nat))
def B62 (j : Int) : Prop := -(2 ^ 62) ≤ j ∧ j < 2 ^ 62
instance (j : Int) : Decidable (B62 j) := by unfold B62; exact inferInstance
def gRng1 (ds : List D) (h : Hd) : R Itm := match ds with
  | [.int j] => if B62 j then .ok ⟨rng 0 j.toNat, fun _ => True⟩ h else .no
  | _ => .no
def sRg (g : List D → Hd → R Itm) (k : SA) : SI := fun τ h => (k τ h).bind g
theorem irep_r {K : PySem.W.Frag} {ι0 : List Addr} {H0 : Hp} (lo : Int) (n : Nat) : IRep K ι0 H0 (Itr lo n) ⟨rng lo n, fun _ => True⟩ := by
  intro ι H h g hr _
  refine ⟨fun i d ed => ?_, by show n ≤ (rng lo n).length; simp [rng]⟩
  simp only [rng, List.getElem?_map, Option.map_eq_some_iff] at ed
  obtain ⟨j, ej, rfl⟩ := ed
  obtain ⟨hj, e⟩ := List.getElem?_eq_some_iff.mp ej
  simp at e hj
  subst e
  refine ⟨hj, fun y H' q => ?_⟩
  obtain ⟨rfl, rfl⟩ := q
  exact ⟨.refl _ _, .int _, hr⟩
theorem mi_rng1 {X : Cx} {E : XD} {tg a : Expr} {k : SA} {p pos : Pos} (hg : Gl X "range") (hm : X.mg "range" = none) (ha : MA X E [a] k) (hs : starEach [a] X.env = [(false, eval a X.env)] := by rfl) : MI X E tg (.Call (.Name "range" p) [a] [] pos) (sRg gRng1 k) := by
  intro pins s σ H Rr I ⟨ι, τ, h, S, Rh, o⟩
  refine pi_range1 hg hm ha hs pins s σ H Rr I ⟨ι, τ, h, S, Rh, out_bind o fun ds h1 ι1 H1 vs g1 r1 hr1 o1 => ?_⟩
  unfold gRng1 at o1
  split at o1
  · rename_i j
    cases r1 with
    | cons r rs =>
      cases r; cases rs
      by_cases hb : B62 j
      · rw [if_pos hb] at o1
        exact ⟨j, rfl, hb.1, hb.2, o1 ι1 H1 _ (.refl _ _) (irep_r 0 j.toNat) hr1⟩
      · rw [if_neg hb] at o1; exact o1.elim
  · exact o1.elim
open Classical in
noncomputable def forL (ck : Hd → Prop) (g : SG) (b : SS) : List D → Sd → Hd → Fl
  | [], τ, h => if ck h then .nx τ h else .no
  | x :: xs, τ, h => if ck h then (match g x τ h with
      | .nx τ1 h1 => (match b τ1 h1 with
        | .nx τ2 h2 => forL ck g b xs τ2 h2
        | .ct τ2 h2 => forL ck g b xs τ2 h2
        | .bk τ2 h2 => .nx τ2 h2
        | r => r)
      | _ => .no) else .no
noncomputable def sFor (f : SI) (g : SG) (b : SS) : SS := fun τ h => (f τ h).fl fun it h1 => forL it.ck g b it.xs τ h1
theorem for_snd {K : PySem.W.Frag} {E : XD} {ι0 : List Addr} {H0 : Hp} {J : It} {it : Itm} {g : SG} {b : SS} {N : Ends} {σ0 : St} {τ0 : Sd} {h0 : Hd} (ir : IRep K ι0 H0 J it) (S : SRep K ι0 H0 σ0 τ0) (Rh : HRep K ι0 H0 h0) (o : outS K E ι0 H0 (forL it.ck g b it.xs τ0 h0) N) :
    ∃ W : Nat → Nat → St → Hp → Prop, (∃ m, W 0 m σ0 H0) ∧ ∀ i m σ H, W i m σ H →
      (J.stop i H ∧ N.nx σ H) ∨ (J.go i H ∧ ∃ M : St → Hp → Prop, (∀ σ' H', M σ' H' → ∃ m', m' < m ∧ W (i + 1) m' σ' H') ∧ ∀ x H', J.yld i H x H' → liftG K E g x σ H' fun σ2 H2 => liftS K E b { N with nx := M, ct := M, bk := N.nx } σ2 H2) := by
  refine ⟨fun i m σ H => m = it.xs.length - i ∧ i ≤ it.xs.length ∧ ∃ ι τ h, Gr ι0 H0 ι H ∧ SRep K ι H σ τ ∧ HRep K ι H h ∧ outS K E ι H (forL it.ck g b (it.xs.drop i) τ h) N, ⟨_, rfl, Nat.zero_le _, ι0, τ0, h0, .refl _ _, S, Rh, o⟩, ?_⟩
  rintro i m σ H ⟨rfl, hi, ι, τ, h, g0, S, Rh, o⟩
  by_cases hlt : i < it.xs.length
  · rw [List.drop_eq_getElem_cons hlt, forL] at o
    by_cases hc : it.ck h
    · rw [if_pos hc] at o
      obtain ⟨go, yl⟩ := (ir ι H h g0 Rh hc).1 i _ (List.getElem?_eq_getElem hlt)
      refine .inr ⟨go, fun σ' H' => it.xs.length - (i + 1) < it.xs.length - i ∧ ∃ ι τ h, Gr ι0 H0 ι H' ∧ SRep K ι H' σ' τ ∧ HRep K ι H' h ∧ outS K E ι H' (forL it.ck g b (it.xs.drop (i + 1)) τ h) N, fun σ' H' q => ⟨_, q.1, rfl, hlt, q.2⟩, fun x H' y => ?_⟩
      obtain ⟨g1, r1, hr1⟩ := yl x H' y
      refine ⟨ι, τ, h, _, r1, S.mono g1, hr1, ?_⟩
      have o' := outS_mono o g1
      cases hg : g it.xs[i] τ h with
      | nx τ1 h1 =>
        rw [hg] at o'
        dsimp only at o'
        intro ι2 H2 σ2 g2 S2 R2
        refine ⟨ι2, τ1, h1, S2, R2, ?_⟩
        have o2 := outS_mono o' g2
        have gg := (g0.trans g1).trans g2
        cases hb : b τ1 h1 with
        | nx τ2 h2 => rw [hb] at o2; exact fun ι3 H3 σ3 g3 S3 R3 => ⟨by omega, ι3, τ2, h2, gg.trans g3, S3, R3, outS_mono o2 g3⟩
        | ct τ2 h2 => rw [hb] at o2; exact fun ι3 H3 σ3 g3 S3 R3 => ⟨by omega, ι3, τ2, h2, gg.trans g3, S3, R3, outS_mono o2 g3⟩
        | bk τ2 h2 => rw [hb] at o2; exact o2
        | rt d h2 => rw [hb] at o2; exact o2
        | ex c h2 => rw [hb] at o2; exact o2
        | no => rw [hb] at o2; exact o2.elim
      | _ => rw [hg] at o'; exact o'.elim
    · rw [if_neg hc] at o; exact o.elim
  · have e : i = it.xs.length := by omega
    subst e
    rw [List.drop_eq_nil_of_le (Nat.le_refl _), forL] at o
    by_cases hc : it.ck h
    · rw [if_pos hc] at o
      exact .inl ⟨(ir ι H h g0 Rh hc).2, o ι H σ (.refl _ _) S Rh⟩
    · rw [if_neg hc] at o; exact o.elim
theorem ms_for {X : Cx} {E : XD} {tg iter : Expr} {body : List Stmt} {f : SI} {g : SG} {b : SS} {pos : Pos} (hp : PassesOwn (model X.prog X.w) X.A X.env X.xe) (hc : X.calm = true) (hi : MI X E tg iter f) (hg : MG X E tg g) (hb : MSs X E body b) (hs : ∀ x, foldedSetIterable iter X.env x = pure x := by intro _; rfl) : MS X E (.For tg iter body [] pos) (sFor f g b) := by
  refine PS.weak (ps_for hp hc hi hg hb hs) fun N σ H ⟨ι, τ, h, S, Rh, o⟩ => ?_
  exact ⟨ι, τ, h, S, Rh, out_fl o fun it h1 ι1 H1 J g1 r1 hr1 o1 => for_snd r1 (S.mono g1) hr1 o1⟩
end MI
set_option Elab.async false
set_option linter.all false
set_option maxRecDepth 100000
set_option maxHeartbeats 4000000
namespace MI
open PySem PySem.Spec L2
open Classical in
noncomputable def mapR (ck : Hd → Prop) (f : D → Hd → R D) : List D → Hd → R (List D)
  | [], h => if ck h then .ok [] h else .no
  | x :: xs, h => if ck h then (f x h).bind fun y h1 => (mapR ck f xs h1).bind fun ys h2 => .ok (y :: ys) h2 else .no
def frs' (ix : List Nat) (τ : Sd) : Sd := ix.map fun i => (τ[i]?).join
def t1 (d : D) : Option Sd := some [some d]
def bindT (t : D → Option Sd) (fe : SE) (rest : Sd) (x : D) (h : Hd) : R D := match t x with | some ts => fe (ts ++ rest) h | none => .no
def kLst (yd zs : List D) (h : Hd) : R D := .ok (.ref h.length) (h ++ [.lst (yd ++ zs)])
theorem k_cons (r : R D) (m : Hd → R (List D)) (yd : List D) : (r.bind fun y h1 => (m h1).bind fun ys h2 => .ok (y :: ys) h2).bind (kLst yd) = r.bind fun y h1 => (m h1).bind (kLst (yd ++ [y])) := by
  cases r with
  | ok y h1 =>
    show ((m h1).bind _).bind _ = (m h1).bind _
    cases m h1 with
    | ok ys h2 => simp [R.bind, kLst]
    | _ => rfl
  | _ => rfl
noncomputable def sComp (fi : SI) (t : D → Option Sd) (fe : SE) (ix : List Nat) : SE := fun τ h => (fi τ h).bind fun it h1 => if it.xs.length ≤ LINE then (mapR it.ck (bindT t fe (frs' ix τ)) it.xs h1).bind (kLst []) else .no
def TgOk (K : PySem.W.Frag) (n : Nat) (g : TG) (t : D → Option Sd) : Prop := ∀ ι H v d ts (r : St) (Q : St → Hp → Prop), Rep K ι H v d → t d = some ts → (∀ us : St, us.length = n → SRep K ι H us ts → Q (us ++ r) H) → g v (List.replicate n none ++ r) H Q
theorem srep_nil {K : PySem.W.Frag} {ι : List Addr} {H : Hp} : SRep K ι H [] [] := ⟨rfl, fun i d e => by simp at e⟩
theorem srep_cons {K : PySem.W.Frag} {ι : List Addr} {H : Hp} {v : V} {d : D} {σ : St} {τ : Sd} (r : Rep K ι H v d) (s : SRep K ι H σ τ) : SRep K ι H (some v :: σ) (some d :: τ) := by
  refine ⟨by simp [s.len], fun i d' e => ?_⟩
  cases i with
  | zero => simp at e; subst e; exact ⟨v, rfl, r⟩
  | succ i => simpa using s.val i d' (by simpa using e)
theorem srep_app {K : PySem.W.Frag} {ι : List Addr} {H : Hp} {σ σ' : St} {τ τ' : Sd} (s : SRep K ι H σ τ) (s' : SRep K ι H σ' τ') : SRep K ι H (σ ++ σ') (τ ++ τ') := by
  refine ⟨by simp [s.len, s'.len], fun i d e => ?_⟩
  by_cases hi : i < τ.length
  · rw [List.getElem?_append_left hi] at e
    rw [List.getElem?_append_left (by rw [s.len]; exact hi)]
    exact s.val i d e
  · rw [List.getElem?_append_right (by omega)] at e
    rw [List.getElem?_append_right (by rw [s.len]; omega), s.len]
    exact s'.val _ d e
theorem srep_frs {K : PySem.W.Frag} {ι : List Addr} {H : Hp} {σ : St} {τ : Sd} (s : SRep K ι H σ τ) (ix : List Nat) : SRep K ι H (ix.map fun i => (σ[i]?).join) (frs' ix τ) := by
  refine ⟨by simp [frs'], fun j d e => ?_⟩
  simp only [frs', List.getElem?_map, Option.map_eq_some_iff] at e
  obtain ⟨i, hi, e⟩ := e
  have : τ[i]? = some (some d) := by
    cases q : τ[i]? with
    | none => rw [q] at e; cases e
    | some o => rw [q] at e; simp at e; rw [e]
  obtain ⟨v, h1, h2⟩ := s.val i d this
  exact ⟨v, by simp [hi, h1], h2⟩
theorem tg_one {K : PySem.W.Frag} : TgOk K 1 (gName 0) t1 := fun ι H v d ts r Q hr e q => by
  cases e
  exact q [some v] rfl (srep_cons hr srep_nil)
theorem ext_app {n : Nat} {us r : St} (h : us.length = n) : L2.Ext (List.replicate n none ++ r) (us ++ r) := by
  refine ⟨by simp [h], fun i v e => ?_⟩
  by_cases hi : i < n
  · rw [List.getElem?_append_left (by simpa using hi), List.getElem?_replicate, if_pos hi] at e
    cases e
  · rw [List.getElem?_append_right (by simpa using hi), List.length_replicate] at e
    rw [List.getElem?_append_right (by omega), h]
    exact e
theorem comp_snd {K : PySem.W.Frag} {E : XD} {ι0 : List Addr} {H0 : Hp} {J : It} {it : Itm} {g : TG} {t : D → Option Sd} {fe : SE} {n : Nat} {r : St} {rd : Sd} {h0 : Hd} {Q : VK} (ir : IRep K ι0 H0 J it) (tg : TgOk K n g t) (S : SRep K ι0 H0 r rd) (Rh : HRep K ι0 H0 h0) (hl : it.xs.length ≤ LINE)
    (o : out K E (repD K) ι0 H0 ((mapR it.ck (bindT t fe rd) it.xs h0).bind (kLst [])) Q) : compW J (List.replicate n none ++ r) g (lift K E (repD K) fe) Q H0 := by
  refine ⟨fun i m ys H => m = it.xs.length - i ∧ i ≤ it.xs.length ∧ ys.length ≤ i ∧ ∃ ι h yd, Gr ι0 H0 ι H ∧ HRep K ι H h ∧ Reps K ι H ys yd ∧ out K E (repD K) ι H ((mapR it.ck (bindT t fe rd) (it.xs.drop i) h).bind (kLst yd)) Q,
    ⟨_, rfl, Nat.zero_le _, Nat.zero_le _, ι0, h0, [], .refl _ _, Rh, .nil, o⟩, ?_⟩
  rintro i m ys H ⟨rfl, hi, hy, ι, h, yd, g0, Rh, ry, o⟩
  by_cases hlt : i < it.xs.length
  · rw [List.drop_eq_getElem_cons hlt, mapR] at o
    by_cases hc : it.ck h
    · rw [if_pos hc, k_cons] at o
      obtain ⟨go, yl⟩ := (ir ι H h g0 Rh hc).1 i _ (List.getElem?_eq_getElem hlt)
      refine .inr ⟨go, Nat.lt_of_le_of_lt hy (Nat.lt_of_lt_of_le hlt (ll hl)), fun x H' y => ?_⟩
      obtain ⟨g1, r1, hr1⟩ := yl x H' y
      have o' := out_mono o g1
      cases ht : t it.xs[i] with
      | none => simp only [bindT, ht] at o'; exact o'.elim
      | some ts =>
        simp only [bindT, ht] at o'
        refine tg ι H' x _ ts r _ r1 ht fun us hus su => ⟨ext_app hus, ι, ts ++ rd, h, srep_app su (S.mono (g0.trans g1)), hr1, out_bind o' fun d2 h2 ι2 H2 u g2 r2 hr2 o2 => ?_⟩
        refine ⟨it.xs.length - (i + 1), by omega, rfl, hlt, by simp; omega, ι2, h2, yd ++ [d2], (g0.trans g1).trans g2, hr2, ((ry.mono g1).mono g2).snoc r2, o2⟩
    · rw [if_neg hc] at o; exact o.elim
  · have e : i = it.xs.length := by omega
    subst e
    rw [List.drop_eq_nil_of_le (Nat.le_refl _), mapR] at o
    by_cases hc : it.ck h
    · rw [if_pos hc] at o
      refine .inl ⟨(ir ι H h g0 Rh hc).2, new_lst (E := E) ry Rh ?_⟩
      simpa [R.bind, kLst] using o
    · rw [if_neg hc] at o; exact o.elim
section
variable {X : Cx} {E : XD} {elt tg iter cnd : Expr} {scope : Scope} {pos : Pos} {cl : List (Str × Addr)} {ts fr : List Str} {ix : List Nat} {fi : SI} {g : TG} {t : D → Option Sd} {fe : SE} {fc : ST}
theorem me_comp (hc : X.calm = true) (S : CSc X scope cl ts fr ix) (hi : MI X E tg iter fi) (hg : ∀ C fp s H, PG (cxC X (ts ++ fr) scope cl C fp s H) tg g) (ht : TgOk X.K ts.length g t) (he : ∀ C fp s H, ME (cxC X (ts ++ fr) scope cl C fp s H) E elt fe)
    (hs : ∀ x, foldedSetIterable iter X.env x = pure x := by intro _; rfl) : ME X E (.ListComp elt [⟨tg, iter, [], 0⟩] scope pos) (sComp fi t fe ix) := by
  refine PE.weak (pe_lcomp (te := lift X.K E (repD X.K) fe) hc S hi hg he hs) fun σ H Q ⟨ι, τ, h, Sr, Rh, o⟩ => ?_
  refine ⟨ι, τ, h, Sr, Rh, out_bind o fun it h1 ι1 H1 J g1 r1 hr1 o1 => ?_⟩
  by_cases hl : it.xs.length ≤ LINE
  · rw [if_pos hl] at o1
    exact comp_snd r1 ht (srep_frs (Sr.mono g1) ix) hr1 hl o1
  · rw [if_neg hl] at o1; exact o1.elim
end
mutual
def clo (n : Nat) : D → Prop
  | .tup xs => clos n xs
  | .rol xs => clos n xs
  | .ref i => i < n
  | _ => True
def clos (n : Nat) : List D → Prop
  | [] => True
  | x :: xs => clo n x ∧ clos n xs
end
mutual
theorem Rep.clo {K : PySem.W.Frag} {ι : List Addr} {H : Hp} : ∀ {v : V} {d : D}, Rep K ι H v d → clo ι.length d
  | _, _, .non => by simp [MI.clo]
  | _, _, .bl b => by simp [MI.clo]
  | _, _, .int i => by simp [MI.clo]
  | _, _, .str x => by simp [MI.clo]
  | _, _, .ty n => by simp [MI.clo]
  | _, _, .tup h r => by simp only [MI.clo]; exact Reps.clo r
  | _, _, .rol h r => by simp only [MI.clo]; exact Reps.clo r
  | _, _, .ref h => by simp only [MI.clo]; exact (List.getElem?_eq_some_iff.mp h).1
theorem Reps.clo {K : PySem.W.Frag} {ι : List Addr} {H : Hp} : ∀ {vs : List V} {ds : List D}, Reps K ι H vs ds → clos ι.length ds
  | _, _, .nil => by simp [MI.clos]
  | _, _, .cons r rs => by simp only [MI.clos]; exact ⟨Rep.clo r, Reps.clo rs⟩
end
mutual
theorem Rep.cut {K : PySem.W.Frag} {ι : List Addr} {H : Hp} {n : Nat} : ∀ {v : V} {d : D}, Rep K ι H v d → clo n d → Rep K (ι.take n) H v d
  | _, _, .non, _ => .non
  | _, _, .bl b, _ => .bl b
  | _, _, .int i, _ => .int i
  | _, _, .str x, _ => .str x
  | _, _, .ty n, _ => .ty n
  | _, _, .tup h r, c => .tup h (Reps.cut r (by simpa only [MI.clo] using c))
  | _, _, .rol h r, c => .rol h (Reps.cut r (by simpa only [MI.clo] using c))
  | _, _, .ref h, c => .ref (by simp only [MI.clo] at c; rw [List.getElem?_take, if_pos c]; exact h)
theorem Reps.cut {K : PySem.W.Frag} {ι : List Addr} {H : Hp} {n : Nat} : ∀ {vs : List V} {ds : List D}, Reps K ι H vs ds → clos n ds → Reps K (ι.take n) H vs ds
  | _, _, .nil, _ => .nil
  | _, _, .cons r rs, c => by simp only [MI.clos] at c; exact .cons (Rep.cut r c.1) (Reps.cut rs c.2)
end
def cloO (n : Nat) : O → Prop
  | .lst xs => clos n xs
  | .dK kvs => clos n (kvs.map (·.2))
def cloH (n : Nat) (h : Hd) : Prop := ∀ o ∈ h, cloO n o
theorem ORep.clo {K : PySem.W.Frag} {ι : List Addr} {H : Hp} {a : Addr} {o : O} (r : ORep K ι H a o) : cloO ι.length o := by
  cases o with
  | lst xs => obtain ⟨vs, _, r⟩ := r; exact r.clo
  | dK kvs => obtain ⟨us, _, _, r⟩ := r; exact r.clo
theorem ORep.cut {K : PySem.W.Frag} {ι : List Addr} {H : Hp} {a : Addr} {o : O} {n : Nat} (r : ORep K ι H a o) (c : cloO n o) : ORep K (ι.take n) H a o := by
  cases o with
  | lst xs => obtain ⟨vs, h, r⟩ := r; exact ⟨vs, h, r.cut c⟩
  | dK kvs => obtain ⟨us, h, e, r⟩ := r; exact ⟨us, h, e, r.cut c⟩
theorem HRep.clo {K : PySem.W.Frag} {ι : List Addr} {H : Hp} {h : Hd} (r : HRep K ι H h) : cloH h.length h := fun o ho => by
  obtain ⟨i, hi⟩ := List.getElem?_of_mem ho
  obtain ⟨a, _, q⟩ := r.addr hi
  rw [← r.len]; exact q.clo
theorem HRep.cut {K : PySem.W.Frag} {ι : List Addr} {H : Hp} {h g : Hd} (r : HRep K ι H (h ++ g)) (c : cloH h.length h) : HRep K (ι.take h.length) H h := by
  refine ⟨r.nd.sublist (List.take_sublist _ _), ?_, fun i a o e1 e2 => ?_⟩
  · have := r.len
    rw [List.length_append] at this
    rw [List.length_take]; omega
  · have hi : i < h.length := (List.getElem?_eq_some_iff.mp e2).1
    rw [List.getElem?_take, if_pos hi] at e1
    exact (r.obj i a o e1 (by rw [List.getElem?_append_left hi]; exact e2)).cut (c o (List.mem_of_getElem? e2))
def X0 : XD := fun _ _ _ _ => False
abbrev SF := List D → Hd → R D
def spOf (K : PySem.W.Frag) (n : Nat) (F : SF) : Sp := fun vs H Q _ => vs.length = n ∧ ∃ ι ds h, Reps K ι H vs ds ∧ HRep K ι H h ∧ out K X0 (repD K) ι H (F ds h) Q
def startD (n : Nat) (ds : List D) : Sd := ds.map some ++ List.replicate (n - ds.length) none
def bodyR (b : SS) (n : Nat) (ds : List D) (h : Hd) : R D := match b (startD n ds) h with
  | .rt d h1 => .ok d h1
  | .nx _ h1 => .ok .non h1
  | .ex c h1 => .ex c h1
  | _ => .no
def Rf (n : Nat) (r' r : R D) : Prop := match r with
  | .no => True
  | .ok d h1 => ∃ g, r' = .ok d (h1 ++ g) ∧ (g = [] ∨ (n ≤ h1.length ∧ clo h1.length d ∧ cloH h1.length h1))
  | .ex c h1 => ∃ g, r' = .ex c (h1 ++ g) ∧ (g = [] ∨ (n ≤ h1.length ∧ cloH h1.length h1))
theorem Rf.same {n : Nat} {r' r : R D} (h : r' = r) : Rf n r' r := by
  subst h
  cases r' with
  | ok d h1 => exact ⟨[], by simp, .inl rfl⟩
  | ex c h1 => exact ⟨[], by simp, .inl rfl⟩
  | no => exact True.intro
theorem srep_start {K : PySem.W.Frag} {ι : List Addr} {H : Hp} {vs : List V} {ds : List D} {N : List Str} (r : Reps K ι H vs ds) : SRep K ι H (start N vs) (startD N.length ds) := by
  refine srep_app ?_ ?_
  · clear N
    induction r using Reps.rec (motive_1 := fun _ _ _ => True) with
    | nil => exact srep_nil
    | cons r rs _ ih => exact srep_cons r ih
    | _ => trivial
  · rw [r.len]
    exact ⟨by simp, fun i d e => by rw [List.getElem?_replicate] at e; split at e <;> cases e⟩
theorem gr_cut {ι ι' : List Addr} {H H' : Hp} {n : Nat} (g : Gr ι H ι' H') (hn : ι.length ≤ n) : Gr ι H (ι'.take n) H' := by
  obtain ⟨m, rfl⟩ := g.pre
  exact ⟨⟨m.take (n - ι.length), by rw [List.take_append, List.take_of_length_le hn]⟩, g.tup, g.frz⟩
section
variable {P : Program} {w : World} {K : PySem.W.Frag} {mg : Str → Option Value} {base : Heap}
theorem def_ok {x qual : Str} {st : Stmt} {f : Addr} {fd : FuncData} {N ps : List Str} {k : Nat} {b : SS} {F : SF} (Fu : Fun K x qual st f fd) (S : FnScope N ps (defScope st))
    (hb : ∀ (cdv : Value) (A : Around) (outer : List Env) (s : Shared) (H : Hp) (E : XK), Room k (A.deeper (PyProof.Rows.envOfC qual (defScope st) s.heap.objs.size f cdv)) → MSs (cxOf CX0 P w K mg base N qual (defScope st) f cdv A outer s H E).nox X0 (defBody st) b)
    (hF : ∀ ds h, ds.length = ps.length → clos h.length ds → cloH h.length h → Rf h.length (bodyR b N.length ds h) (F ds h)) : FnOk P w K mg base CX0 (k + 1) f fd ps (spOf K ps.length F) := by
  refine Fu.ok S (fun vs H Q E h => h.1) fun cdv A outer s H vs Q E hr h => ⟨_, hb cdv A outer s H E hr, ?_⟩
  obtain ⟨hl, ι, ds, h, r, hr', o⟩ := h
  refine ⟨ι, startD N.length ds, h, srep_start r, hr', ?_⟩
  have q := hF ds h (by rw [← r.len]; exact hl) (by rw [← hr'.len]; exact r.clo) hr'.clo
  unfold bodyR at q
  cases hFd : F ds h with
  | no => rw [hFd] at o; exact o.elim
  | ex c h1 =>
    rw [hFd] at q o
    obtain ⟨g, e, cl⟩ := q
    have fin : ∀ ι' H', Gr ι H ι' H' → HRep K ι' H' (h1 ++ g) → X0 c ι' H' (h1 ++ g) := fun ι' H' g1 hr1 => by
      rcases cl with rfl | ⟨hn, c2⟩
      · rw [List.append_nil] at hr1
        exact o ι' H' g1 hr1
      · exact o (ι'.take h1.length) H' (gr_cut g1 (by rw [hr'.len]; exact hn)) (hr1.cut c2)
    cases hbd : b (startD N.length ds) h with
    | ex c' h' =>
      rw [hbd] at e
      injection e with e1 e2
      subst e1 e2
      exact fin
    | _ => rw [hbd] at e; cases e
  | ok d h1 =>
    rw [hFd] at q o
    obtain ⟨g, e, cl⟩ := q
    have fin : ∀ ι' H' v, Gr ι H ι' H' → Rep K ι' H' v d → HRep K ι' H' (h1 ++ g) → Q v H' := fun ι' H' v g1 r1 hr1 => by
      rcases cl with rfl | ⟨hn, c1, c2⟩
      · rw [List.append_nil] at hr1
        exact o ι' H' v g1 r1 hr1
      · exact o (ι'.take h1.length) H' v (gr_cut g1 (by rw [hr'.len]; exact hn)) (r1.cut c1) (hr1.cut c2)
    cases hbd : b (startD N.length ds) h with
    | rt d' h' =>
      rw [hbd] at e
      injection e with e1 e2
      subst e1 e2
      exact fin
    | nx τ' h' =>
      rw [hbd] at e
      injection e with e1 e2
      subst e1 e2
      exact fun ι' H' σ' g1 S1 hr1 => fin ι' H' .non g1 .non hr1
    | _ => rw [hbd] at e; cases e
def sN (n : Nat) (F : SF) : SF := fun ds h => if ds.length = n then F ds h else .no
theorem sn_snd {n : Nat} {F : SF} {ι : List Addr} {H : Hp} {vs : List V} {ds : List D} {h : Hd} {Q : VK} (r : Reps K ι H vs ds) (hr : HRep K ι H h) (o : out K X0 (repD K) ι H (sN n F ds h) Q) (E : XK) : spOf K n F vs H Q E := by
  unfold sN at o
  split at o
  · rename_i hl
    exact ⟨by rw [r.len]; exact hl, ι, ds, h, r, hr, o⟩
  · exact o.elim
end
theorem me_call {X : Cx} {k n : Nat} {f : Addr} {fd : FuncData} {ps : List Str} {x : Str} {F : SF} {ka : SA} {e : Expr} {es : List Expr} {p pos : Pos} (G : Dn X.prog X.w X.K X.mg X.base k x ps (spOf X.K n F) f fd) (hr : Room k X.A) (hg : Gl X x) (ha : MA X X0 (e :: es) ka)
    (hdb : (x == ("__debug__" : Str)) = false := by decide) (he : starEach (e :: es) X.env = (false, eval e X.env) :: starEach es X.env := by rfl) (hpl : (backTo pos (starEach es X.env)).any (·.1) = false := by rfl) : ME X X0 (.Call (.Name x p) (e :: es) [] pos) (sA (sN n F) ka) := by
  refine PE.weak (pe_call G.ok hr hg G.m G.kp G.b .nil pass0 ha hdb he hpl) fun σ H Q ⟨ι, τ, h, S, Rh, o⟩ => ?_
  refine ⟨ι, τ, h, S, Rh, out_bind o fun ds h1 ι1 H1 vs g1 r1 hr1 o1 => ?_⟩
  rw [List.append_nil]
  exact sn_snd r1 hr1 o1 _
theorem me_call0 {X : Cx} {k n : Nat} {f : Addr} {fd : FuncData} {ps : List Str} {x : Str} {F : SF} {p pos : Pos} (G : Dn X.prog X.w X.K X.mg X.base k x ps (spOf X.K n F) f fd) (hr : Room k X.A) (hg : Gl X x) (hdb : (x == ("__debug__" : Str)) = false := by decide) :
    ME X X0 (.Call (.Name x p) [] [] pos) (sA (sN n F) sNil) := by
  refine PE.weak (pe_call0 G.ok hr hg G.m G.kp G.b .nil pass0 hdb) fun σ H Q ⟨ι, τ, h, S, Rh, o⟩ => ?_
  exact sn_snd (vs := []) .nil Rh o E0
end MI
set_option Elab.async false
set_option linter.all false
set_option maxRecDepth 100000
set_option maxHeartbeats 4000000
namespace MI
open PySem PySem.Spec L2
section
variable {K : PySem.W.Frag} {E : XD} {ι : List Addr} {H : Hp} {h : Hd} {Q : VK}
theorem ans {d : D} {v : V} (o : out K E (repD K) ι H (.ok d h) Q) (r : Rep K ι H v d) (hr : HRep K ι H h) : Q v H := o ι H v (.refl _ _) r hr
theorem HRep.lst (hr : HRep K ι H h) {i : Nat} {a : Addr} {xs : List D} (e : ι[i]? = some a) (hi : h[i]? = some (.lst xs)) : ∃ vs, H a = some (.lst vs) ∧ Reps K ι H vs xs := hr.obj i a _ e hi
end
def gAdd : D → D → Hd → R D
  | .int i, .int j, h => .ok (.int (i + j)) h
  | .str x, .str y, h => if x.length + y.length ≤ LINE then .ok (.str (x ++ y)) h else .no
  | .tup xs, .tup ys, h => if xs ≠ [] ∧ xs.length + ys.length ≤ LINE then .ok (.tup (xs ++ ys)) h else .no
  | .ref i, .ref j, h => match h[i]?, h[j]? with
    | some (.lst xs), some (.lst ys) => if xs.length + ys.length ≤ LINE then .ok (.ref h.length) (h ++ [.lst (xs ++ ys)]) else .no
    | _, _ => .no
  | _, _, _ => .no
def gSub : D → D → Hd → R D
  | .int i, .int j, h => .ok (.int (i - j)) h
  | _, _, _ => .no
open Classical in
noncomputable def gMul : D → D → Hd → R D
  | .int i, .int j, h => if CMul i j then .ok (.int (i * j)) h else .no
  | .ref i, .int k, h => match h[i]? with
    | some (.lst xs) => if (-(2 ^ 63) ≤ k ∧ k < 2 ^ 63) ∧ xs.length * k.toNat ≤ LINE then .ok (.ref h.length) (h ++ [.lst (List.replicate k.toNat xs).flatten]) else .no
    | _ => .no
  | _, _, _ => .no
def gMod : D → D → Hd → R D
  | .int i, .int j, h => if 0 < j then .ok (.int (i % j)) h else .no
  | _, _, _ => .no
def gDiv : D → D → Hd → R D
  | .int i, .int j, h => if 0 < j ∧ j < 1073741824 then .ok (.int (i / j)) h else .no
  | _, _, _ => .no
def gPow : D → D → Hd → R D
  | .int i, .int j, h => if 0 ≤ j ∧ j ≤ 1000000 ∧ i.natAbs < 2 ^ 64 then .ok (.int (i ^ j.toNat)) h else .no
  | _, _, _ => .no
section
variable {X : Cx} {K : PySem.W.Frag}
theorem snd_sub : Snd2 K gSub (rI0 fun i j => .int (i - j)) := by
  intro E ι H h x y dx dy Q rx ry hr o
  cases rx with
  | int i =>
    cases ry with
    | int j => exact ⟨i, j, rfl, rfl, ans o (.int _) hr⟩
    | _ => exact o.elim
  | _ => exact o.elim
theorem snd_mod : Snd2 K gMod (rI (fun _ j => 0 < j) fun i j => .int (i % j)) := by
  intro E ι H h x y dx dy Q rx ry hr o
  cases rx with
  | int i =>
    cases ry with
    | int j =>
      by_cases hc : 0 < j
      · simp only [gMod, if_pos hc] at o; exact ⟨i, j, rfl, rfl, hc, ans o (.int _) hr⟩
      · simp only [gMod, if_neg hc] at o; exact o.elim
    | _ => exact o.elim
  | _ => exact o.elim
theorem snd_div : Snd2 K gDiv (rI CDiv fun i j => .int (i / j)) := by
  intro E ι H h x y dx dy Q rx ry hr o
  cases rx with
  | int i =>
    cases ry with
    | int j =>
      by_cases hc : 0 < j ∧ j < 1073741824
      · simp only [gDiv, if_pos hc] at o; exact ⟨i, j, rfl, rfl, hc, ans o (.int _) hr⟩
      · simp only [gDiv, if_neg hc] at o; exact o.elim
    | _ => exact o.elim
  | _ => exact o.elim
theorem snd_pow : Snd2 K gPow (rI CPow fun i j => .int (i ^ j.toNat)) := by
  intro E ι H h x y dx dy Q rx ry hr o
  cases rx with
  | int i =>
    cases ry with
    | int j =>
      by_cases hc : 0 ≤ j ∧ j ≤ 1000000 ∧ i.natAbs < 2 ^ 64
      · simp only [gPow, if_pos hc] at o; exact ⟨i, j, rfl, rfl, hc, ans o (.int _) hr⟩
      · simp only [gPow, if_neg hc] at o; exact o.elim
    | _ => exact o.elim
  | _ => exact o.elim
theorem snd_mul : Snd2 K gMul (fun x y H Q => rI CMul (fun i j => .int (i * j)) x y H Q ∨ rRep x y H Q) := by
  intro E ι H h x y dx dy Q rx ry hr o
  cases rx with
  | int i =>
    cases ry with
    | int j =>
      by_cases hc : CMul i j
      · simp only [gMul, if_pos hc] at o; exact .inl ⟨i, j, rfl, rfl, hc, ans o (.int _) hr⟩
      · simp only [gMul, if_neg hc] at o; exact o.elim
    | _ => exact o.elim
  | @ref a i ha =>
    cases ry with
    | int k =>
      simp only [gMul] at o
      split at o
      · rename_i xs hx
        obtain ⟨vs, h3, h4⟩ := hr.lst ha hx
        split at o
        · rename_i hc
          exact .inr ⟨a, k, vs, rfl, rfl, h3, hc.1.1, hc.1.2, ll (by rw [h4.len]; exact hc.2), new_lst (h4.flat _) hr o⟩
        · exact o.elim
      · exact o.elim
    | _ => exact o.elim
  | _ => exact o.elim
theorem snd_add : Snd2 K gAdd (fun x y H Q => rI0 (fun i j => .int (i + j)) x y H Q ∨ (∃ i j, x = .str i ∧ y = .str j ∧ i.length + j.length ≤ sizeLine ∧ Q (.str (i ++ j)) H) ∨ rCatT K x y H Q ∨ rCat x y H Q) := by
  intro E ι H h x y dx dy Q rx ry hr o
  cases rx with
  | int i =>
    cases ry with
    | int j => exact .inl ⟨i, j, rfl, rfl, ans o (.int _) hr⟩
    | _ => exact o.elim
  | str i =>
    cases ry with
    | str j =>
      by_cases hc : i.length + j.length ≤ LINE
      · simp only [gAdd, if_pos hc] at o; exact .inr (.inl ⟨i, j, rfl, rfl, ll hc, ans o (.str _) hr⟩)
      · simp only [gAdd, if_neg hc] at o; exact o.elim
    | _ => exact o.elim
  | @tup a vs xs ha r1 =>
    cases ry with
    | @tup b us ys hb r2 =>
      by_cases hc : xs ≠ [] ∧ xs.length + ys.length ≤ LINE
      · simp only [gAdd, if_pos hc] at o
        refine .inr (.inr (.inl ⟨a, b, vs, us, rfl, rfl, SqT.of ha, SqT.of hb, fun z => hc.1 ?_, ll (by rw [r1.len, r2.len]; exact hc.2), fun z => ?_, fun _ => ?_⟩))
        · subst z; cases r1; rfl
        · subst z; cases r2
          rw [List.append_nil] at o
          exact ans o (.tup ha r1) hr
        · exact new_tup (r1.app r2) hr o
      · simp only [gAdd, if_neg hc] at o; exact o.elim
    | _ => exact o.elim
  | @ref a i ha =>
    cases ry with
    | @ref b j hb =>
      simp only [gAdd] at o
      split at o
      · rename_i xs ys hx hy
        obtain ⟨vs, h3, h4⟩ := hr.lst ha hx
        obtain ⟨us, h5, h6⟩ := hr.lst hb hy
        split at o
        · rename_i hc
          exact .inr (.inr (.inr ⟨a, b, vs, us, rfl, rfl, h3, h5, ll (by rw [h4.len, h6.len]; exact hc), new_lst (h4.app h6) hr o⟩))
        · exact o.elim
      · exact o.elim
    | _ => exact o.elim
  | _ => exact o.elim
variable {E : XD} {a b e : Expr} {es : List Expr} {fa fb : SE} {ka : SA} {pos : Pos}
theorem me_add (ha : ME X E a fa) (hb : ME X E b fb) : ME X E (.BinOp a .Add b pos) (s2 gAdd fa fb) := me_op (op_add.or (op_add_str.or (op_catT.or op_cat))) snd_add ha hb
theorem me_sub (ha : ME X E a fa) (hb : ME X E b fb) : ME X E (.BinOp a .Sub b pos) (s2 gSub fa fb) := me_op op_sub snd_sub ha hb
theorem me_mul (ha : ME X E a fa) (hb : ME X E b fb) : ME X E (.BinOp a .Mult b pos) (s2 gMul fa fb) := me_op (op_mul.or op_rep) snd_mul ha hb
theorem me_mod (ha : ME X E a fa) (hb : ME X E b fb) : ME X E (.BinOp a .Mod b pos) (s2 gMod fa fb) := me_op op_mod snd_mod ha hb
theorem me_div (ha : ME X E a fa) (hb : ME X E b fb) : ME X E (.BinOp a .FloorDiv b pos) (s2 gDiv fa fb) := me_op op_fdiv snd_div ha hb
theorem me_pow (ha : ME X E a fa) (hb : ME X E b fb) : ME X E (.BinOp a .Pow b pos) (s2 gPow fa fb) := me_op op_pow snd_pow ha hb
def gNeg : D → Hd → R D
  | .int i, h => .ok (.int (-i)) h
  | _, _ => .no
theorem me_neg (ha : ME X E a fa) : ME X E (.UnaryOp .USub a pos) (s1 gNeg fa) := me_un un_neg (fun E ι H h x dx Q rx hr o => by
  cases rx with
  | int i => exact ⟨i, rfl, ans o (.int _) hr⟩
  | _ => exact o.elim) ha
def gLt : D → D → Hd → R D
  | .int i, .int j, h => .ok (.bl (decide (i < j))) h
  | .str i, .str j, h => .ok (.bl (decide (i.cps.toList < j.cps.toList))) h
  | _, _, _ => .no
def gLe : D → D → Hd → R D
  | .int i, .int j, h => .ok (.bl (decide (i ≤ j))) h
  | .str i, .str j, h => .ok (.bl (!decide (j.cps.toList < i.cps.toList))) h
  | _, _, _ => .no
def gGt : D → D → Hd → R D
  | .int i, .int j, h => .ok (.bl (decide (j < i))) h
  | _, _, _ => .no
def gGe : D → D → Hd → R D
  | .int i, .int j, h => .ok (.bl (decide (j ≤ i))) h
  | _, _, _ => .no
theorem snd_lt : Snd2 K gLt (fun x y H Q => rI0 (fun i j => .bl (decide (i < j))) x y H Q ∨ ∃ i j, x = .str i ∧ y = .str j ∧ Q (.bl (decide (i.cps.toList < j.cps.toList))) H) := by
  intro E ι H h x y dx dy Q rx ry hr o
  cases rx with
  | int i =>
    cases ry with
    | int j => exact .inl ⟨i, j, rfl, rfl, ans o (.bl _) hr⟩
    | _ => exact o.elim
  | str i =>
    cases ry with
    | str j => exact .inr ⟨i, j, rfl, rfl, ans o (.bl _) hr⟩
    | _ => exact o.elim
  | _ => exact o.elim
theorem snd_le : Snd2 K gLe (fun x y H Q => rI0 (fun i j => .bl (decide (i ≤ j))) x y H Q ∨ ∃ i j, x = .str i ∧ y = .str j ∧ Q (.bl (!decide (j.cps.toList < i.cps.toList))) H) := by
  intro E ι H h x y dx dy Q rx ry hr o
  cases rx with
  | int i =>
    cases ry with
    | int j => exact .inl ⟨i, j, rfl, rfl, ans o (.bl _) hr⟩
    | _ => exact o.elim
  | str i =>
    cases ry with
    | str j => exact .inr ⟨i, j, rfl, rfl, ans o (.bl _) hr⟩
    | _ => exact o.elim
  | _ => exact o.elim
theorem snd_gt : Snd2 K gGt (rI0 fun i j => .bl (decide (j < i))) := by
  intro E ι H h x y dx dy Q rx ry hr o
  cases rx with
  | int i =>
    cases ry with
    | int j => exact ⟨i, j, rfl, rfl, ans o (.bl _) hr⟩
    | _ => exact o.elim
  | _ => exact o.elim
theorem snd_ge : Snd2 K gGe (rI0 fun i j => .bl (decide (j ≤ i))) := by
  intro E ι H h x y dx dy Q rx ry hr o
  cases rx with
  | int i =>
    cases ry with
    | int j => exact ⟨i, j, rfl, rfl, ans o (.bl _) hr⟩
    | _ => exact o.elim
  | _ => exact o.elim
def isNon : D → Bool
  | .non => true
  | _ => false
theorem isNon_of {ι : List Addr} {H : Hp} {x : V} {d : D} (r : Rep K ι H x d) : decide (x = .non) = isNon d := by cases r <;> simp [isNon]
def gIs : D → D → Hd → R D
  | x, .non, h => .ok (.bl (isNon x)) h
  | .bl i, .bl j, h => .ok (.bl (i == j)) h
  | _, _, _ => .no
def gIsNot : D → D → Hd → R D
  | x, .non, h => .ok (.bl (!isNon x)) h
  | .bl i, .bl j, h => .ok (.bl (i != j)) h
  | _, _, _ => .no
theorem snd_is : Snd2 K gIs (fun x y H Q => (y = .non ∧ Q (.bl (decide (x = .non))) H) ∨ ∃ i j, x = .bl i ∧ y = .bl j ∧ Q (.bl (i == j)) H) := by
  intro E ι H h x y dx dy Q rx ry hr o
  cases ry with
  | non => exact .inl ⟨rfl, by rw [isNon_of rx]; simp only [gIs] at o; exact ans o (.bl _) hr⟩
  | bl j =>
    cases rx with
    | bl i => exact .inr ⟨i, j, rfl, rfl, ans o (.bl _) hr⟩
    | _ => exact o.elim
  | _ => cases rx <;> exact o.elim
theorem snd_isNot : Snd2 K gIsNot (fun x y H Q => (y = .non ∧ Q (.bl (!decide (x = .non))) H) ∨ ∃ i j, x = .bl i ∧ y = .bl j ∧ Q (.bl (i != j)) H) := by
  intro E ι H h x y dx dy Q rx ry hr o
  cases ry with
  | non => exact .inl ⟨rfl, by rw [isNon_of rx]; simp only [gIsNot] at o; exact ans o (.bl _) hr⟩
  | bl j =>
    cases rx with
    | bl i => exact .inr ⟨i, j, rfl, rfl, ans o (.bl _) hr⟩
    | _ => exact o.elim
  | _ => cases rx <;> exact o.elim
def flatD : D → Bool
  | .non => true | .bl _ => true | .int _ => true | .str _ => true
  | _ => false
end
end MI
set_option Elab.async false
set_option linter.all false
set_option maxRecDepth 100000
set_option maxHeartbeats 4000000
namespace MI
open PySem PySem.Spec L2
section
variable {X : Cx} {K : PySem.W.Frag} {E : XD} {a b e o : Expr} {es : List Expr} {fa fb : SE} {ka : SA} {pos : Pos}
def seqD (d : D) (h : Hd) : Option (List D) := match d with
  | .tup xs => some xs
  | .rol xs => some xs
  | .ref i => match h[i]? with | some (.lst xs) => some xs | _ => none
  | _ => none
def gIx (x y : D) (h : Hd) : R D := match y with
  | .int i => (match x with
    | .str z => if z.length ≤ LINE then (match atI z.cps.toList i with | some c => .ok (.str ⟨#[c]⟩) h | none => .no) else .no
    | x => match seqD x h with
      | some xs => (match atI xs i with | some d => .ok d h | none => .no)
      | none => .no)
  | _ => .no
theorem atI_reps {ι : List Addr} {H : Hp} {vs : List V} {xs : List D} {i : Int} {d : D} (r : Reps K ι H vs xs) (e : atI xs i = some d) : ∃ v, atI vs i = some v ∧ Rep K ι H v d := by
  unfold atI at e ⊢
  rw [r.len]
  cases hx : ixN xs.length i with
  | none => rw [hx] at e; cases e
  | some j => rw [hx] at e; exact r.get e
theorem snd_ix : Snd2 K gIx (rIx K) := by
  intro E ι H h x y dx dy Q rx ry hr o
  cases ry with
  | int i =>
    have go : ∀ {p : Addr} {vs : List V} {xs : List D}, Reps K ι H vs xs → out K E (repD K) ι H (match atI xs i with | some d => .ok d h | none => .no) Q → ∃ v, atI vs i = some v ∧ Q v H := fun {p vs xs} r o => by
      cases he : atI xs i with
      | none => rw [he] at o; exact o.elim
      | some d =>
        rw [he] at o
        obtain ⟨v, h1, h2⟩ := atI_reps r he
        exact ⟨v, h1, ans o h2 hr⟩
    cases rx with
    | str z =>
      by_cases hc : z.length ≤ LINE
      · simp only [gIx, if_pos hc] at o
        cases he : atI z.cps.toList i with
        | none => rw [he] at o; exact o.elim
        | some c => rw [he] at o; exact .inr (.inr ⟨z, i, c, rfl, rfl, ll hc, he, ans o (.str _) hr⟩)
      · simp only [gIx, if_neg hc] at o; exact o.elim
    | @tup p vs xs hp r =>
      simp only [gIx, seqD] at o
      obtain ⟨v, h1, h2⟩ := go (p := p) r o
      exact .inr (.inl ⟨p, vs, i, v, rfl, rfl, SqT.of hp, h1, h2⟩)
    | @rol p vs xs hp r =>
      simp only [gIx, seqD] at o
      obtain ⟨v, h1, h2⟩ := go (p := p) r o
      exact .inl ⟨p, vs, i, v, rfl, rfl, hp.l, h1, h2⟩
    | @ref p j hp =>
      obtain ⟨ob, e1, e2⟩ := hr.at hp
      cases ob with
      | lst xs =>
        simp only [gIx, seqD, e1] at o
        obtain ⟨vs, h3, h4⟩ := e2
        obtain ⟨v, h1, h2⟩ := go (p := p) h4 o
        exact .inl ⟨p, vs, i, v, rfl, rfl, SqL.of h3, h1, h2⟩
      | dK _ => simp only [gIx, seqD, e1] at o; exact o.elim
    | _ => exact o.elim
  | _ => exact o.elim
theorem me_item (ha : ME X E a fa) (hb : ME X E b fb) (hp : PlainIx b) : ME X E (.Subscript a b pos) (s2 gIx fa fb) := me_ix ix_seq snd_ix ha hb hp
abbrev SO := Sd → Hd → R (Option Int)
abbrev MO (X : Cx) (E : XD) (e : Option Expr) (f : SO) : Prop := PO X e (lift X.K E repO f)
def oN : SO := fun _ h => .ok none h
def oS (f : SE) : SO := fun τ h => (f τ h).bind fun d h1 => match d with | .int i => .ok (some i) h1 | _ => .no
theorem PO.weak {e : Option Expr} {t t' : St → Hp → (Option Int → Hp → Prop) → Prop} (h : PO X e t) (i : ∀ σ H Q, t' σ H Q → t σ H Q) : PO X e t' := fun pins s σ H Q I q => h pins s σ H Q I (i _ _ _ q)
theorem mo_none : MO X E none oN := PO.weak po_none fun σ H Q ⟨ι, τ, h, S, Rh, o⟩ => o ι H none (.refl _ _) rfl Rh
theorem mo_some (he : ME X E e fa) : MO X E (some e) (oS fa) := by
  refine PO.weak (po_some he) fun σ H Q ⟨ι, τ, h, S, Rh, o⟩ => ?_
  refine ⟨ι, τ, h, S, Rh, out_bind o fun d h1 ι1 H1 v g1 r1 hr1 o1 => ?_⟩
  cases r1 with
  | int i => exact ⟨i, rfl, o1 ι1 H1 _ (.refl _ _) rfl hr1⟩
  | _ => exact o1.elim
def whole (n : Nat) (lo hi : Option Int) : Prop := HT.sIx n 0 lo = 0 ∧ HT.sIx n n hi = n
instance (n : Nat) (lo hi : Option Int) : Decidable (whole n lo hi) := by unfold whole; exact inferInstance
def gSl (d : D) (lo hi : Option Int) (h : Hd) : R D := match d with
  | .str z => if z.length ≤ LINE then .ok (.str ⟨(cutL z.cps.toList lo hi).toArray⟩) h else .no
  | .tup xs => if ¬ whole xs.length lo hi then .ok (.tup (cutL xs lo hi)) h else .no
  | .rol xs => .ok (.ref h.length) (h ++ [.lst (cutL xs lo hi)])
  | .ref i => match h[i]? with | some (.lst xs) => .ok (.ref h.length) (h ++ [.lst (cutL xs lo hi)]) | _ => .no
  | _ => .no
theorem reps_cut {ι : List Addr} {H : Hp} {vs : List V} {xs : List D} (r : Reps K ι H vs xs) (lo hi : Option Int) : Reps K ι H (cutV vs lo hi) (cutL xs lo hi) := by
  unfold cutV cutL
  rw [r.len]
  exact (r.drop _).take _
theorem snd_sl {ι : List Addr} {H : Hp} {h : Hd} {x : V} {d : D} {lo hi : Option Int} {Q : VK} (rx : Rep K ι H x d) (hr : HRep K ι H h) (o : out K E (repD K) ι H (gSl d lo hi h) Q) : rSlS x lo hi H Q ∨ rSlT K x lo hi H Q ∨ rSlL K x lo hi H Q := by
  cases rx with
  | str z =>
    by_cases hc : z.length ≤ LINE
    · simp only [gSl, if_pos hc] at o; exact .inl ⟨z, rfl, ll hc, ans o (.str _) hr⟩
    · simp only [gSl, if_neg hc] at o; exact o.elim
  | @tup p vs xs hp r =>
    by_cases hc : ¬ whole xs.length lo hi
    · simp only [gSl, if_pos hc] at o
      exact .inr (.inl ⟨p, vs, rfl, SqT.of hp, by rw [r.len]; exact hc, new_tup (reps_cut r lo hi) hr o⟩)
    · simp only [gSl, if_neg hc] at o; exact o.elim
  | @rol p vs xs hp r => exact .inr (.inr ⟨p, vs, rfl, hp.l, new_lst (reps_cut r lo hi) hr o⟩)
  | @ref p j hp =>
    obtain ⟨ob, e1, e2⟩ := hr.at hp
    cases ob with
    | lst xs =>
      simp only [gSl, e1] at o
      obtain ⟨vs, h3, h4⟩ := e2
      exact .inr (.inr ⟨p, vs, rfl, SqL.of h3, new_lst (reps_cut h4 lo hi) hr o⟩)
    | dK _ => simp only [gSl, e1] at o; exact o.elim
  | _ => exact o.elim
def gLen : List D → Hd → R D
  | [.str z], h => if z.length ≤ LINE then .ok (.int z.length) h else .no
  | [x], h => (match seqD x h with | some xs => .ok (.int xs.length) h | none => .no)
  | _, _ => .no
theorem snd_len : SndL K gLen (fun xs H Q => (∃ p ys, xs = [.ref p] ∧ (SqL K H p ys ∨ SqT K H p ys) ∧ Q (.int ys.length) H) ∨ ∃ z, xs = [.str z] ∧ z.length ≤ sizeLine ∧ Q (.int z.length) H) := by
  intro E ι H h xs ds Q r hr o
  cases r with
  | nil => exact o.elim
  | cons r rs =>
    cases rs with
    | cons _ _ => exact (show False by cases r <;> exact o).elim
    | nil =>
      cases r with
      | str z =>
        by_cases hc : z.length ≤ LINE
        · simp only [gLen, if_pos hc] at o; exact .inr ⟨z, rfl, ll hc, ans o (.int _) hr⟩
        · simp only [gLen, if_neg hc] at o; exact o.elim
      | @tup p vs xs hp r => simp only [gLen, seqD] at o; exact .inl ⟨p, vs, rfl, .inr (SqT.of hp), by rw [r.len]; exact ans o (.int _) hr⟩
      | @rol p vs xs hp r => simp only [gLen, seqD] at o; exact .inl ⟨p, vs, rfl, .inl hp.l, by rw [r.len]; exact ans o (.int _) hr⟩
      | @ref p j hp =>
        obtain ⟨ob, e1, e2⟩ := hr.at hp
        cases ob with
        | lst xs =>
          simp only [gLen, seqD, e1] at o
          obtain ⟨vs, h3, h4⟩ := e2
          exact .inl ⟨p, vs, rfl, .inl (SqL.of h3), by rw [h4.len]; exact ans o (.int _) hr⟩
        | dK _ => simp only [gLen, seqD, e1] at o; exact o.elim
      | _ => exact o.elim
theorem CallR.or {f : Value} {r r' : List V → Hp → VK → Prop} (h : CallR X f r) (h' : CallR X f r') : CallR X f (fun xs H Q => r xs H Q ∨ r' xs H Q) := by
  intro pins s σ H xs us Q I rx q
  rcases q with q | q
  · exact h pins s σ H xs us Q I rx q
  · exact h' pins s σ H xs us Q I rx q
def gAbs : List D → Hd → R D
  | [.int i], h => .ok (.int (if i < 0 then -i else i)) h
  | _, _ => .no
theorem snd_abs : SndL K gAbs (fun xs H Q => ∃ i, xs = [.int i] ∧ Q (.int (if i < 0 then -i else i)) H) := by
  intro E ι H h xs ds Q r hr o
  unfold gAbs at o
  split at o
  · cases r with | cons r rs => cases r; cases rs; exact ⟨_, rfl, ans o (.int _) hr⟩
  · exact o.elim
def gMax2 : List D → Hd → R D
  | [.int i, .int j], h => .ok (.int (if j > i then j else i)) h
  | _, _ => .no
def gMin2 : List D → Hd → R D
  | [.int i, .int j], h => .ok (.int (if j < i then j else i)) h
  | _, _ => .no
theorem snd_min2 : SndL K gMin2 (fun xs H Q => ∃ i j, xs = [.int i, .int j] ∧ Q (.int (if j < i then j else i)) H) := by
  intro E ι H h xs ds Q r hr o
  unfold gMin2 at o
  split at o
  · cases r with | cons r rs => cases rs with | cons q rs => cases r; cases q; cases rs; exact ⟨_, _, rfl, ans o (.int _) hr⟩
  · exact o.elim
def gInt : List D → Hd → R D
  | [.int i], h => .ok (.int i) h
  | [.bl k], h => .ok (.int (if k then 1 else 0)) h
  | _, _ => .no
theorem snd_int : SndL K gInt (fun xs H Q => (∃ i, xs = [.int i] ∧ Q (.int i) H) ∨ ∃ k, xs = [.bl k] ∧ Q (.int (if k then 1 else 0)) H) := by
  intro E ι H h xs ds Q r hr o
  unfold gInt at o
  split at o
  · cases r with | cons r rs => cases r; cases rs; exact .inl ⟨_, rfl, ans o (.int _) hr⟩
  · cases r with | cons r rs => cases r; cases rs; exact .inr ⟨_, rfl, ans o (.int _) hr⟩
  · exact o.elim
def gOrd : List D → Hd → R D
  | [.str x], h => if x.length = 1 then .ok (.int (x.cps.getD 0 0 : Nat)) h else .no
  | _, _ => .no
theorem snd_ord : SndL K gOrd (fun xs H Q => ∃ x, xs = [.str x] ∧ x.length = 1 ∧ Q (.int (x.cps.getD 0 0 : Nat)) H) := by
  intro E ι H h xs ds Q r hr o
  unfold gOrd at o
  split at o
  · split at o
    · rename_i hc
      cases r with | cons r rs => cases r; cases rs; exact ⟨_, rfl, hc, ans o (.int _) hr⟩
    · exact o.elim
  · exact o.elim
def tyD (d : D) (h : Hd) : Option String := match d with
  | .non => some "NoneType" | .bl _ => some "bool" | .int _ => some "int" | .str _ => some "str" | .tup _ => some "tuple"
  | .ref i => (match h[i]? with | some (.lst _) => some "list" | some (.dK _) => some "dict" | none => none)
  | _ => none
def subT (t T : String) : Option Bool :=
  if t ∈ ["NoneType", "bool", "int", "str", "tuple", "list", "dict"] ∧ T ∈ ["bool", "int", "str", "tuple", "list", "dict"] then some (t == T || (t == "bool" && T == "int")) else none
theorem subT_ok {t T : String} {b : Bool} (e : subT t T = some b) : PySem.W.kitOne K (.type t) (.type T) = some b := by
  unfold subT at e
  split at e
  · rename_i h
    obtain ⟨h1, h2⟩ := h
    simp only [List.mem_cons, List.not_mem_nil, or_false] at h1 h2
    rcases h1 with rfl | rfl | rfl | rfl | rfl | rfl | rfl <;> rcases h2 with rfl | rfl | rfl | rfl | rfl | rfl <;> (cases e; rfl)
  · cases e
def gIsi : List D → Hd → R D
  | [x, .ty T], h => (match tyD x h with | some t => (match subT t T with | some b => .ok (.bl b) h | none => .no) | none => .no)
  | _, _ => .no
theorem tyD_ok {ι : List Addr} {H : Hp} {h : Hd} {x : V} {d : D} {t : String} (r : Rep K ι H x d) (hr : HRep K ι H h) (e : tyD d h = some t) : TyOf K H x (.type t) := by
  cases r with
  | non => cases e; exact .non
  | bl b => cases e; exact .bl b
  | int b => cases e; exact .int b
  | str b => cases e; exact .str b
  | ty _ => cases e
  | tup hp r => cases e; exact .tup hp
  | rol _ _ => cases e
  | ref hp =>
    obtain ⟨ob, e1, e2⟩ := hr.at hp
    cases ob with
    | lst xs => simp only [tyD, e1] at e; cases e; obtain ⟨vs, h3, h4⟩ := e2; exact .lst h3
    | dK _ => simp only [tyD, e1] at e; cases e; obtain ⟨vs, h3, h4⟩ := e2; exact .dK h3
theorem snd_isi : SndL K gIsi (fun xs H Q => ∃ x T t b, xs = [x, .ty T] ∧ TyOf K H x t ∧ PySem.W.kitOne K t (.type T) = some b ∧ Q (.bl b) H) := by
  intro E ι H h xs ds Q r hr o
  unfold gIsi at o
  split at o
  · rename_i d T
    cases r with
    | cons r rs =>
      cases rs with
      | cons q rs =>
        cases q; cases rs
        cases ht : tyD d h with
        | none => rw [ht] at o; exact o.elim
        | some t =>
          rw [ht] at o
          cases hb : subT t T with
          | none => simp only [hb] at o; exact o.elim
          | some b =>
            simp only [hb] at o
            exact ⟨_, T, .type t, b, rfl, tyD_ok r hr ht, subT_ok hb, ans o (.bl _) hr⟩
  · exact o.elim
end
end MI
set_option Elab.async false
set_option linter.all false
set_option maxRecDepth 100000
set_option maxHeartbeats 4000000
namespace MI
open PySem PySem.Spec L2
section
variable {X : Cx} {K : PySem.W.Frag} {E : XD} {a b e o : Expr} {es : List Expr} {fa fb fo : SE} {ka : SA} {pos apos cpos : Pos} {name : Str} {idn : String}
def SndM (K : PySem.W.Frag) (g : D → List D → Hd → R D) (r : V → List V → Hp → VK → Prop) : Prop := ∀ (E : XD) ι H h x dx xs ds Q, Rep K ι H x dx → Reps K ι H xs ds → HRep K ι H h → out K E (repD K) ι H (g dx ds h) Q → r x xs H Q
def isL (d : D) (h : Hd) : Bool := match d with | .ref i => (match h[i]? with | some (.lst _) => true | _ => false) | .rol _ => true | _ => false
def sML (g : D → List D → Hd → R D) (f : SE) (k : SA) : SE := fun τ h => (f τ h).bind fun d h1 => if isL d h1 = true then (k τ h1).bind fun ds h2 => g d ds h2 else .no
theorem isL_ok {ι : List Addr} {H : Hp} {h : Hd} {x : V} {d : D} (r : Rep K ι H x d) (hr : HRep K ι H h) (e : isL d h = true) : tyV K "list" x H := by
  cases r with
  | rol hp _ => exact .inl ⟨rfl, _, hp.l⟩
  | ref hp =>
    obtain ⟨ob, e1, e2⟩ := hr.at hp
    cases ob with
    | lst xs => obtain ⟨vs, h3, _⟩ := e2; exact .inl ⟨rfl, _, SqL.of h3⟩
    | dK _ => simp [isL, e1] at e
  | _ => cases e
theorem me_ml {r : V → List V → Hp → VK → Prop} {g : D → List D → Hd → R D} (slot : Slot "list" name idn) (hty : typeOf (.builtin idn) = pure (.type "method_descriptor")) (hm : MtR X idn r) (hs : SndM X.K g r) (ho : ME X E o fo) (ha : MA X E (e :: es) ka)
    (hbase : attributeBase o name X.env (eval o X.env) = eval o X.env := by rfl)
    (hfew : ((backTo cpos (starEach (e :: es) X.env)).all (fun x => !x.1) && (backToKw cpos (keywordEach [] X.env)).all (fun x => x.1.isSome)
      && decide ((e :: es).length + ([] : List Keyword).length + (if ([] : List Keyword).isEmpty then 0 else 1) < 30)) = true := by rfl)
    (hline : (apos.endLine == cpos.line) = true := by rfl) (hst : starEach (e :: es) X.env = (false, eval e X.env) :: starEach es X.env := by rfl) (hplain : (backTo cpos (starEach es X.env)).any (·.1) = false := by rfl) :
    ME X E (.Call (.Attribute o name apos) (e :: es) [] cpos) (sML g fo ka) := by
  refine PE.weak (pe_bm PySem.F.plainAttrs_list slot hty hm ho ha hbase hfew hline hst hplain) fun σ H Q ⟨ι, τ, h, S, Rh, o⟩ => ?_
  refine ⟨ι, τ, h, S, Rh, out_bind o fun d h1 ι1 H1 v g1 r1 hr1 o1 => ?_⟩
  by_cases hc : isL d h1 = true
  · rw [if_pos hc] at o1
    refine ⟨isL_ok r1 hr1 hc, ι1, τ, h1, S.mono g1, hr1, out_bind o1 fun ds h2 ι2 H2 vs g2 r2 hr2 o2 => ?_⟩
    exact hs E ι2 H2 h2 v d vs ds Q (r1.mono g2) r2 hr2 o2
  · rw [if_neg hc] at o1; exact o1.elim
def gApp : D → List D → Hd → R D
  | .ref i, [y], h => (match h[i]? with | some (.lst xs) => if xs.length < LINE then .ok .non (h.set i (.lst (xs ++ [y]))) else .no | _ => .no)
  | _, _, _ => .no
theorem snd_app : SndM K gApp rAppend := by
  intro E ι H h x dx xs ds Q rx r hr o
  unfold gApp at o
  split at o
  · rename_i i y
    cases rx with
    | @ref p _ hp =>
      cases r with
      | cons r1 rs =>
        cases rs
        split at o
        · rename_i xs hx
          obtain ⟨vs, h3, h4⟩ := hr.lst hp hx
          split at o
          · rename_i hc
            exact ⟨p, vs, _, rfl, rfl, h3, by rw [h4.len, sLine]; exact hc, put_lst (h4.snoc r1) hr hp .non o⟩
          · exact o.elim
        · exact o.elim
  · exact o.elim
def gExt : D → List D → Hd → R D
  | .ref i, [.tup ys], h => (match h[i]? with | some (.lst xs) => if xs.length + ys.length ≤ LINE then .ok .non (h.set i (.lst (xs ++ ys))) else .no | _ => .no)
  | .ref i, [.ref j], h => (match h[i]?, h[j]? with | some (.lst xs), some (.lst ys) => if xs.length + ys.length ≤ LINE then .ok .non (h.set i (.lst (xs ++ ys))) else .no | _, _ => .no)
  | _, _, _ => .no
def gList : List D → Hd → R D
  | [.str z], h => if z.length ≤ LINE then .ok (.ref h.length) (h ++ [.lst (signsD z)]) else .no
  | [x], h => (match seqD x h with | some xs => .ok (.ref h.length) (h ++ [.lst xs]) | none => .no)
  | _, _ => .no
theorem reps_signs {ι : List Addr} {H : Hp} (z : Str) : Reps K ι H (signsV z) (signsD z) := by
  unfold signsV signsD
  induction z.cps.toList with
  | nil => exact .nil
  | cons c cs ih => exact .cons (.str _) ih
theorem snd_list : SndL K gList (fun xs H Q => (∃ p ys, xs = [.ref p] ∧ (SqL K H p ys ∨ SqT K H p ys) ∧ ∀ l, H l = none → Q (.ref l) (upd H l (.lst ys))) ∨ ∃ z, xs = [.str z] ∧ z.length ≤ sizeLine ∧ ∀ l, H l = none → Q (.ref l) (upd H l (.lst (signsV z)))) := by
  intro E ι H h xs ds Q r hr o
  cases r with
  | nil => exact o.elim
  | cons r rs =>
    cases rs with
    | cons _ _ => exact (show False by cases r <;> exact o).elim
    | nil =>
      cases r with
      | str z =>
        by_cases hc : z.length ≤ LINE
        · simp only [gList, if_pos hc] at o; exact .inr ⟨z, rfl, ll hc, new_lst (reps_signs z) hr o⟩
        · simp only [gList, if_neg hc] at o; exact o.elim
      | @tup p vs xs hp r => simp only [gList, seqD] at o; exact .inl ⟨p, vs, rfl, .inr (SqT.of hp), new_lst r hr o⟩
      | @rol p vs xs hp r => simp only [gList, seqD] at o; exact .inl ⟨p, vs, rfl, .inl hp.l, new_lst r hr o⟩
      | @ref p j hp =>
        obtain ⟨ob, e1, e2⟩ := hr.at hp
        cases ob with
        | lst xs =>
          simp only [gList, seqD, e1] at o
          obtain ⟨vs, h3, h4⟩ := e2
          exact .inl ⟨p, vs, rfl, .inl (SqL.of h3), new_lst h4 hr o⟩
        | dK _ => simp only [gList, seqD, e1] at o; exact o.elim
      | _ => exact o.elim
def gTuple : List D → Hd → R D
  | [.str z], h => if z.length ≤ LINE then .ok (.tup (signsD z)) h else .no
  | [x], h => (match seqD x h with | some xs => .ok (.tup xs) h | none => .no)
  | _, _ => .no
theorem snd_tuple : SndL K gTuple (fun xs H Q => (∃ p ys, xs = [.ref p] ∧ ((SqL K H p ys ∧ ∀ l, H l = none → Q (.ref l) (upd H l (.tup ys))) ∨ (SqT K H p ys ∧ Q (.ref p) H))) ∨ ∃ z, xs = [.str z] ∧ z.length ≤ sizeLine ∧ ∀ l, H l = none → Q (.ref l) (upd H l (.tup (signsV z)))) := by
  intro E ι H h xs ds Q r hr o
  cases r with
  | nil => exact o.elim
  | cons r rs =>
    cases rs with
    | cons _ _ => exact (show False by cases r <;> exact o).elim
    | nil =>
      cases r with
      | str z =>
        by_cases hc : z.length ≤ LINE
        · simp only [gTuple, if_pos hc] at o; exact .inr ⟨z, rfl, ll hc, new_tup (reps_signs z) hr o⟩
        · simp only [gTuple, if_neg hc] at o; exact o.elim
      | @tup p vs xs hp r => simp only [gTuple, seqD] at o; exact .inl ⟨p, vs, rfl, .inr ⟨SqT.of hp, ans o (.tup hp r) hr⟩⟩
      | @rol p vs xs hp r => simp only [gTuple, seqD] at o; exact .inl ⟨p, vs, rfl, .inl ⟨hp.l, new_tup r hr o⟩⟩
      | @ref p j hp =>
        obtain ⟨ob, e1, e2⟩ := hr.at hp
        cases ob with
        | lst xs =>
          simp only [gTuple, seqD, e1] at o
          obtain ⟨vs, h3, h4⟩ := e2
          exact .inl ⟨p, vs, rfl, .inl ⟨SqL.of h3, new_tup h4 hr o⟩⟩
        | dK _ => simp only [gTuple, seqD, e1] at o; exact o.elim
      | _ => exact o.elim
def blsD : List D → Option (List Bool)
  | [] => some []
  | .bl z :: r => (blsD r).map (z :: ·)
  | _ :: _ => none
def intsD : List D → Option (List Int)
  | [] => some []
  | .int z :: r => (intsD r).map (z :: ·)
  | _ :: _ => none
theorem blsD_ok {ι : List Addr} {H : Hp} : ∀ {vs : List V} {xs : List D} {zs : List Bool}, Reps K ι H vs xs → blsD xs = some zs → vs = zs.map V.bl
  | _, _, _, .nil, e => by cases e; rfl
  | _, _, zs, .cons (d := d) r rs, e => by
    cases r with
    | bl z =>
      simp only [blsD, Option.map_eq_some_iff] at e
      obtain ⟨ws, h1, rfl⟩ := e
      rw [blsD_ok rs h1]; rfl
    | _ => cases e
theorem blsD_map (bs : List Bool) : blsD (bs.map D.bl) = some bs := by
  induction bs with
  | nil => rfl
  | cons b bs ih => simp [blsD, ih]
theorem intsD_map (bs : List Int) : intsD (bs.map D.int) = some bs := by
  induction bs with
  | nil => rfl
  | cons b bs ih => simp [intsD, ih]
def gAll : List D → Hd → R D
  | [.ref i], h => (match h[i]? with | some (.lst xs) => (match blsD xs with | some bs => .ok (.bl (bs.all id)) h | none => .no) | _ => .no)
  | _, _ => .no
theorem snd_all : SndL K gAll (fun xs H Q => ∃ (p : Addr) (bs : List Bool), xs = [.ref p] ∧ SqL K H p (bs.map V.bl) ∧ Q (.bl (bs.all id)) H) := by
  intro E ι H h xs ds Q r hr o
  unfold gAll at o
  split at o
  · cases r with
    | cons r rs =>
      cases rs
      cases r with
      | @ref p _ hp =>
        split at o
        · rename_i xs hx
          obtain ⟨vs, h3, h4⟩ := hr.lst hp hx
          split at o
          · rename_i bs hb
            exact ⟨p, bs, rfl, SqL.of (by rw [h3, blsD_ok h4 hb]), ans o (.bl _) hr⟩
          · exact o.elim
        · exact o.elim
  · exact o.elim
def gSum : List D → Hd → R D
  | [.ref i], h => (match h[i]? with | some (.lst xs) => (match intsD xs with | some bs => .ok (.int bs.sum) h | none => .no) | _ => .no)
  | _, _ => .no
def gLenSet (d : D) (h : Hd) : R D := match d with | .str z => if z.length ≤ 1000 then .ok (.int ((dedup z.cps.toList).length : Nat)) h else .no | _ => .no
theorem me_lenset {e : Expr} {p1 p2 pos1 pos2 : Pos} (hc : X.calm = true) (hg1 : Gl X "len") (hm1 : X.mg "len" = none) (hg2 : Gl X "set") (hm2 : X.mg "set" = none) (ha : ME X E e fa)
    (h1 : starEach [e] X.env = [(false, eval e X.env)] := by rfl) (h2 : starEach [.Call (.Name "set" p2) [e] [] pos2] X.env = [(false, eval (.Call (.Name "set" p2) [e] [] pos2) X.env)] := by rfl) :
    ME X E (.Call (.Name "len" p1) [.Call (.Name "set" p2) [e] [] pos2] [] pos1) (s1 gLenSet fa) := by
  have q := pe_callB (pos := pos1) (p := p1) call_len_set hg1 hm1 bt_len (pa_cons (pe_callTy (pos := pos2) (p := p2) (call_set_s hc) hg2 hm2 bt_set (pa_cons ha pa_nil (by rw [h1]; rfl)) (by decide) (by decide) (by rw [h1]; rfl) rfl) pa_nil (by rw [h2]; rfl)) (by decide) (by decide) (by rw [h2]; rfl) rfl
  refine PE.weak q fun σ H Q ⟨ι, τ, h, S, Rh, o⟩ => ?_
  refine ⟨ι, τ, h, S, Rh, out_bind o fun d h1 ι1 H1 v g1 r1 hr1 o1 => ?_⟩
  cases r1 with
  | str z =>
    by_cases hz : z.length ≤ 1000
    · simp only [gLenSet, if_pos hz] at o1
      refine ⟨z, rfl, hz, fun l hl => ⟨l, _, rfl, upd_same, o1 ι1 _ _ (gr_new hl _) (.int _) (hr1.aside hl _)⟩⟩
    · simp only [gLenSet, if_neg hz] at o1; exact o1.elim
  | _ => exact o1.elim
end
end MI
set_option Elab.async false
set_option linter.all false
set_option maxRecDepth 100000
set_option maxHeartbeats 4000000
theorem L2.Room.u {k : Nat} {A : PySem.Around} (r : L2.Room k A) : A.units + 64 < PySem.cLine := r.units
namespace MI
open PySem PySem.Spec L2
mutual
def eqD : D → D → Bool
  | .non, .non => true
  | .bl a, .bl b => a == b
  | .bl a, .int b => (if a then 1 else 0) == b
  | .int a, .bl b => a == (if b then 1 else 0)
  | .int a, .int b => a == b
  | .str a, .str b => a == b
  | .tup xs, .tup ys => eqDs xs ys
  | _, _ => false
def eqDs : List D → List D → Bool
  | [], [] => true
  | x :: xs, y :: ys => eqD x y && eqDs xs ys
  | _, _ => false
end
def pur : Nat → D → Bool
  | _, .non => true
  | _, .bl _ => true
  | _, .int _ => true
  | _, .str _ => true
  | n + 1, .tup xs => xs.all (pur n)
  | _, _ => false
theorem pur_up {n : Nat} : ∀ {m : Nat} {d : D}, n ≤ m → pur n d = true → pur m d = true := by
  induction n with
  | zero => intro m d _ h; cases d <;> first | (cases m <;> rfl) | (cases h; done)
  | succ n ih =>
    intro m d hm h
    cases m with
    | zero => omega
    | succ m =>
      cases d with
      | tup xs =>
        simp only [pur, List.all_eq_true] at h ⊢
        exact fun x hx => ih (by omega) (h x hx)
      | _ => first | rfl | (cases h; done)
def pairE (xs ys : List D) (j : Nat) : Bool := match xs[j]?, ys[j]? with | some x, some y => eqD x y | _, _ => false
theorem eqDs_all : ∀ xs ys : List D, ((List.range (min xs.length ys.length)).all (pairE xs ys) && xs.length == ys.length) = eqDs xs ys
  | [], [] => by simp [eqDs]
  | [], _ :: _ => by simp [eqDs]
  | _ :: _, [] => by simp [eqDs]
  | x :: xs, y :: ys => by
    have ih := eqDs_all xs ys
    rw [show min (x :: xs).length (y :: ys).length = min xs.length ys.length + 1 by simp only [List.length_cons]; omega, List.range_succ_eq_map]
    rw [List.all_cons, List.all_map]
    have e : (pairE (x :: xs) (y :: ys) ∘ Nat.succ) = pairE xs ys := by funext j; simp [pairE]
    rw [e]
    simp only [eqDs]
    rw [← ih]
    have e2 : ((x :: xs).length == (y :: ys).length) = (xs.length == ys.length) := by simp
    rw [e2, Bool.and_assoc]
    rfl
section
variable {K : PySem.W.Frag} {ι : List Addr} {H : Hp}
theorem eqD_same : ∀ (n : Nat) {v : V} {d e : D}, Rep K ι H v d → Rep K ι H v e → pur n d = true → pur n e = true → eqD d e = true := by
  intro n
  induction n with
  | zero => intro v d e r q p1 p2; cases r <;> cases q <;> first | (simp [eqD]; done) | (cases p1; done) | (cases p2; done)
  | succ n ih =>
    intro v d e r q p1 p2
    cases r with
    | @tup a vs xs h rs =>
      cases q with
      | @tup _ us ys h' qs =>
        rw [h] at h'; cases h'
        simp only [eqD]
        simp only [pur, List.all_eq_true] at p1 p2
        clear h
        induction rs using Reps.rec (motive_1 := fun _ _ _ => True) generalizing ys with
        | nil => cases qs; rfl
        | cons r rs _ ih2 =>
          cases qs with
          | cons q qs =>
            simp only [eqDs, Bool.and_eq_true]
            exact ⟨ih r q (p1 _ (List.mem_cons_self ..)) (p2 _ (List.mem_cons_self ..)), ih2 qs (fun x hx => p1 x (List.mem_cons_of_mem _ hx)) (fun x hx => p2 x (List.mem_cons_of_mem _ hx))⟩
        | _ => trivial
      | _ => cases p2
    | _ => cases q <;> first | (simp [eqD]; done) | (cases p1; done) | (cases p2; done)
theorem flat_V {n : Nat} {v : V} {d : D} (r : Rep K ι H v d) (p : pur n d = true) : (∃ xs, d = .tup xs) ∨ (flatV v = true ∧ flatD d = true) := by
  cases r <;> first | exact .inr ⟨rfl, rfl⟩ | exact .inl ⟨_, rfl⟩ | (cases n <;> cases p)
theorem eqD_flat {x y : V} {d e : D} (r : Rep K ι H x d) (q : Rep K ι H y e) (f : flatD d = true) (g : flatD e = true) : eqV x y = eqD d e := by
  cases r <;> cases q <;> first | rfl | (simp [eqV, eqD]; done) | (cases f; done) | (cases g; done)
open SeqAt in
theorem eqAt_D {P : Program} {w : World} {s : Shared} (hok : HOk P w H s.heap) : ∀ (n : Nat) (A : Around) {x y : V} {u v : Value} {d e : D}, Rep K ι H x d → Rep K ι H y e → RelV x u → RelV y v → pur n d = true → pur n e = true → A.units + n < cLine → EqAt A s u v (eqD d e) := by
  intro n
  induction n with
  | zero =>
    intro A x y u v d e r q rx ry p1 p2 hu
    rcases flat_V r p1 with ⟨xs, rfl⟩ | ⟨f1, f2⟩
    · cases p1
    · rcases flat_V q p2 with ⟨xs, rfl⟩ | ⟨g1, g2⟩
      · cases p2
      · rw [← eqD_flat r q f2 g2]; exact eqAt_V rx ry f1 g1
  | succ n ih =>
    intro A x y u v d e r q rx ry p1 p2 hu
    rcases flat_V r p1 with ⟨xs, rfl⟩ | ⟨f1, f2⟩
    · cases r with
      | @tup a vs _ ha rs =>
        cases rx
        obtain ⟨_, its, r1, t1⟩ := (Rd.of ha).ok hok
        rcases flat_V q p2 with ⟨ys, rfl⟩ | ⟨g1, g2⟩
        · cases q with
          | @tup b us _ hb qs =>
            cases ry
            obtain ⟨_, its2, r2, t2⟩ := (Rd.of hb).ok hok
            by_cases hab : a = b
            · subst hab
              rw [eqD_same (n + 1) (.tup ha rs) (.tup hb qs) p1 p2]
              exact EqAt.same _
            · have l1 : its.toArray.size = xs.length := by rw [List.size_toArray, ← r1.length, rs.len]
              have l2 : its2.toArray.size = ys.length := by rw [List.size_toArray, ← r2.length, qs.len]
              have := RcAt.tuples (A := A) (s := s) (e := pairE xs ys) t1 t2 (by omega) (fun j h1 h2 => by
                have j1 : j < xs.length := by omega
                have j2 : j < ys.length := by omega
                obtain ⟨v1, e1, q1⟩ := rs.get (List.getElem?_eq_getElem j1)
                obtain ⟨v2, e2, q2⟩ := qs.get (List.getElem?_eq_getElem j2)
                obtain ⟨u1, e3, q3⟩ := r1.get e1
                obtain ⟨u2, e4, q4⟩ := r2.get e2
                have f1 : its.toArray[j] = u1 := by simpa using (List.getElem?_eq_some_iff.mp e3).2
                have f2 : its2.toArray[j] = u2 := by simpa using (List.getElem?_eq_some_iff.mp e4).2
                have pe : pairE xs ys j = eqD xs[j] ys[j] := by simp [pairE, List.getElem?_eq_getElem j1, List.getElem?_eq_getElem j2]
                rw [f1, f2, pe]
                simp only [pur, List.all_eq_true] at p1 p2
                exact ih A.in1 q1 q2 q3 q4 (p1 _ (List.getElem_mem j1)) (p2 _ (List.getElem_mem j2)) (by rw [Around.in1_units]; omega))
              rw [l1, l2, eqDs_all] at this
              exact EqAt.of_refs hab this
        · have e0 : eqD (.tup xs) e = false := by cases e <;> first | rfl | (cases g2; done)
          rw [e0]
          cases y with
          | non => cases ry; exact EqAt.tuple_none t1 (by omega)
          | bl b => cases ry; exact EqAt.tuple_bool b t1 (by omega)
          | int b => obtain ⟨t, rfl⟩ := ry; exact EqAt.tuple_int b t t1 (by omega)
          | str b => obtain ⟨t, rfl⟩ := ry; exact EqAt.tuple_str b t t1 (by omega)
          | _ => cases g1
    · rcases flat_V q p2 with ⟨ys, rfl⟩ | ⟨g1, g2⟩
      · cases q with
        | @tup b us _ hb qs =>
          cases ry
          obtain ⟨_, its2, r2, t2⟩ := (Rd.of hb).ok hok
          have e0 : eqD d (.tup ys) = false := by cases d <;> first | rfl | (cases f2; done)
          rw [e0]
          cases x with
          | non => cases rx; exact EqAt.none_tuple t2 (by omega)
          | bl b => cases rx; exact EqAt.bool_tuple b t2 (by omega)
          | int b => obtain ⟨t, rfl⟩ := rx; exact EqAt.int_tuple b t t2 (by omega)
          | str b => obtain ⟨t, rfl⟩ := rx; exact EqAt.str_tuple b t t2 (by omega)
          | _ => cases f1
      · rw [← eqD_flat r q f2 g2]; exact eqAt_V rx ry f1 g1
open SeqAt in
theorem rcAt_V {A : Around} {s : Shared} {y x : V} {u v : Value} (ry : RelV y u) (rx : RelV x v) (fy : flatV y = true) (fx : flatV x = true) : RcAt A s u v (eqV y x) := by
  cases y with
  | non =>
    cases ry
    cases x with
    | non => cases rx; exact RcAt.none_none
    | bl b => cases rx; exact RcAt.none_bool b
    | int b => obtain ⟨t, rfl⟩ := rx; exact RcAt.none_int b t
    | str b => obtain ⟨t, rfl⟩ := rx; exact RcAt.none_str b t
    | _ => cases fx
  | bl a =>
    cases ry
    cases x with
    | non => cases rx; exact RcAt.bool_none a
    | bl b => cases rx; exact RcAt.bool_bool a b
    | int b => obtain ⟨t, rfl⟩ := rx; exact RcAt.bool_int a b t
    | str b => obtain ⟨t, rfl⟩ := rx; exact RcAt.bool_str a b t
    | _ => cases fx
  | int a =>
    obtain ⟨t', rfl⟩ := ry
    cases x with
    | non => cases rx; exact RcAt.int_none a t'
    | bl b => cases rx; exact RcAt.int_bool a t' b
    | int b => obtain ⟨t, rfl⟩ := rx; exact RcAt.int_int a t' b t
    | str b => obtain ⟨t, rfl⟩ := rx; exact RcAt.int_str a t' b t
    | _ => cases fx
  | str a =>
    obtain ⟨t', rfl⟩ := ry
    cases x with
    | non => cases rx; exact RcAt.str_none a t'
    | bl b => cases rx; exact RcAt.str_bool a t' b
    | int b => obtain ⟨t, rfl⟩ := rx; exact RcAt.str_int a t' b t
    | str b => obtain ⟨t, rfl⟩ := rx; exact RcAt.str_str a t' b t
    | _ => cases fx
  | _ => cases fy
open SeqAt in
theorem rcNeAt_V {A : Around} {s : Shared} {y x : V} {u v : Value} (ry : RelV y u) (rx : RelV x v) (fy : flatV y = true) (fx : flatV x = true) : RcNeAt A s u v (!eqV y x) := by
  cases y with
  | non =>
    cases ry
    cases x with
    | non => cases rx; exact RcNeAt.none_none
    | bl b => cases rx; exact RcNeAt.none_bool b
    | int b => obtain ⟨t, rfl⟩ := rx; exact RcNeAt.none_int b t
    | str b => obtain ⟨t, rfl⟩ := rx; exact RcNeAt.none_str b t
    | _ => cases fx
  | bl a =>
    cases ry
    cases x with
    | non => cases rx; exact RcNeAt.bool_none a
    | bl b => cases rx; exact RcNeAt.bool_bool a b
    | int b => obtain ⟨t, rfl⟩ := rx; exact RcNeAt.bool_int a b t
    | str b => obtain ⟨t, rfl⟩ := rx; exact RcNeAt.bool_str a b t
    | _ => cases fx
  | int a =>
    obtain ⟨t', rfl⟩ := ry
    cases x with
    | non => cases rx; exact RcNeAt.int_none a t'
    | bl b => cases rx; exact RcNeAt.int_bool a t' b
    | int b => obtain ⟨t, rfl⟩ := rx; exact RcNeAt.int_int a t' b t
    | str b => obtain ⟨t, rfl⟩ := rx; exact RcNeAt.int_str a t' b t
    | _ => cases fx
  | str a =>
    obtain ⟨t', rfl⟩ := ry
    cases x with
    | non => cases rx; exact RcNeAt.str_none a t'
    | bl b => cases rx; exact RcNeAt.str_bool a t' b
    | int b => obtain ⟨t, rfl⟩ := rx; exact RcNeAt.str_int a t' b t
    | str b => obtain ⟨t, rfl⟩ := rx; exact RcNeAt.str_str a t' b t
    | _ => cases fx
  | _ => cases fy
open SeqAt in
theorem tops {P : Program} {w : World} {s : Shared} {A : Around} (hok : HOk P w H s.heap) {x y : V} {u v : Value} {d e : D} (r : Rep K ι H x d) (q : Rep K ι H y e) (rx : RelV x u) (ry : RelV y v) (p1 : pur 60 d = true) (p2 : pur 60 e = true) (hu : A.units + 64 < cLine) :
    RcAt A s u v (eqD d e) ∧ RcNeAt A s u v (!eqD d e) := by
  rcases flat_V r p1 with ⟨xs, rfl⟩ | ⟨f1, f2⟩
  · cases r with
    | @tup a vs _ ha rs =>
      cases rx
      obtain ⟨_, its, r1, t1⟩ := (Rd.of ha).ok hok
      rcases flat_V q p2 with ⟨ys, rfl⟩ | ⟨g1, g2⟩
      · cases q with
        | @tup b us _ hb qs =>
          cases ry
          obtain ⟨_, its2, r2, t2⟩ := (Rd.of hb).ok hok
          have l1 : its.toArray.size = xs.length := by rw [List.size_toArray, ← r1.length, rs.len]
          have l2 : its2.toArray.size = ys.length := by rw [List.size_toArray, ← r2.length, qs.len]
          have step : ∀ j (h1 : j < its.toArray.size) (h2 : j < its2.toArray.size), EqAt A.in1 s its.toArray[j] its2.toArray[j] (pairE xs ys j) := fun j h1 h2 => by
            have j1 : j < xs.length := by omega
            have j2 : j < ys.length := by omega
            obtain ⟨v1, e1, q1⟩ := rs.get (List.getElem?_eq_getElem j1)
            obtain ⟨v2, e2, q2⟩ := qs.get (List.getElem?_eq_getElem j2)
            obtain ⟨u1, e3, q3⟩ := r1.get e1
            obtain ⟨u2, e4, q4⟩ := r2.get e2
            have f1 : its.toArray[j] = u1 := by simpa using (List.getElem?_eq_some_iff.mp e3).2
            have f2 : its2.toArray[j] = u2 := by simpa using (List.getElem?_eq_some_iff.mp e4).2
            have pe : pairE xs ys j = eqD xs[j] ys[j] := by simp [pairE, List.getElem?_eq_getElem j1, List.getElem?_eq_getElem j2]
            rw [f1, f2, pe]
            simp only [pur, List.all_eq_true] at p1 p2
            exact eqAt_D hok 59 A.in1 q1 q2 q3 q4 (p1 _ (List.getElem_mem j1)) (p2 _ (List.getElem_mem j2)) (by rw [Around.in1_units]; omega)
          have c1 := RcAt.tuples (A := A) (s := s) (e := pairE xs ys) t1 t2 (by omega) step
          have c2 := RcNeAt.tuples (A := A) (s := s) (e := pairE xs ys) t1 t2 (by omega) step
          rw [l1, l2, eqDs_all] at c1 c2
          exact ⟨c1, c2⟩
      · have e0 : eqD (.tup xs) e = false := by cases e <;> first | rfl | (cases g2; done)
        rw [e0]
        cases y with
        | non => cases ry; exact ⟨RcAt.tuple_none t1 (by omega), RcNeAt.tuple_none t1 (by omega)⟩
        | bl b => cases ry; exact ⟨RcAt.tuple_bool b t1 (by omega), RcNeAt.tuple_bool b t1 (by omega)⟩
        | int b => obtain ⟨t, rfl⟩ := ry; exact ⟨RcAt.tuple_int b t t1 (by omega), RcNeAt.tuple_int b t t1 (by omega)⟩
        | str b => obtain ⟨t, rfl⟩ := ry; exact ⟨RcAt.tuple_str b t t1 (by omega), RcNeAt.tuple_str b t t1 (by omega)⟩
        | _ => cases g1
  · rcases flat_V q p2 with ⟨ys, rfl⟩ | ⟨g1, g2⟩
    · cases q with
      | @tup b us _ hb qs =>
        cases ry
        obtain ⟨_, its2, r2, t2⟩ := (Rd.of hb).ok hok
        have e0 : eqD d (.tup ys) = false := by cases d <;> first | rfl | (cases f2; done)
        rw [e0]
        cases x with
        | non => cases rx; exact ⟨RcAt.none_tuple t2 (by omega), RcNeAt.none_tuple t2 (by omega)⟩
        | bl b => cases rx; exact ⟨RcAt.bool_tuple b t2 (by omega), RcNeAt.bool_tuple b t2 (by omega)⟩
        | int b => obtain ⟨t, rfl⟩ := rx; exact ⟨RcAt.int_tuple b t t2 (by omega), RcNeAt.int_tuple b t t2 (by omega)⟩
        | str b => obtain ⟨t, rfl⟩ := rx; exact ⟨RcAt.str_tuple b t t2 (by omega), RcNeAt.str_tuple b t t2 (by omega)⟩
        | _ => cases f1
    · rw [← eqD_flat r q f2 g2]; exact ⟨rcAt_V rx ry f1 g1, rcNeAt_V rx ry f1 g1⟩
def rEqD (K : PySem.W.Frag) : R2 := fun x y H Q => ∃ ι d e, Rep K ι H x d ∧ Rep K ι H y e ∧ pur 60 d = true ∧ pur 60 e = true ∧ Q (.bl (eqD d e)) H
def rNeD (K : PySem.W.Frag) : R2 := fun x y H Q => ∃ ι d e, Rep K ι H x d ∧ Rep K ι H y e ∧ pur 60 d = true ∧ pur 60 e = true ∧ Q (.bl (!eqD d e)) H
theorem op_eqD {X : Cx} (hu : X.A.units + 64 < cLine) : OpR X (compareOp .Eq) (rEqD X.K) := by
  intro pins s σ H x y v u Q I rx ry h
  obtain ⟨ι, d, e, r, q, p1, p2, hq⟩ := h
  exact (tops (A := X.A) I.hok r q rx ry p1 p2 hu).1 X.prog X.w X.xe _ ⟨.bl _, H, I, rfl, hq⟩
theorem op_neD {X : Cx} (hu : X.A.units + 64 < cLine) : OpR X (compareOp .NotEq) (rNeD X.K) := by
  intro pins s σ H x y v u Q I rx ry h
  obtain ⟨ι, d, e, r, q, p1, p2, hq⟩ := h
  exact (tops (A := X.A) I.hok r q rx ry p1 p2 hu).2 X.prog X.w X.xe _ ⟨.bl _, H, I, rfl, hq⟩
def hEq (x y : D) (h : Hd) : R D := if pur 60 x = true ∧ pur 60 y = true then .ok (.bl (eqD x y)) h else .no
def hNe (x y : D) (h : Hd) : R D := if pur 60 x = true ∧ pur 60 y = true then .ok (.bl (!eqD x y)) h else .no
theorem snd_eqD : Snd2 K hEq (rEqD K) := by
  intro E ι H h x y dx dy Q rx ry hr o
  unfold hEq at o
  split at o
  · rename_i hc; exact ⟨ι, dx, dy, rx, ry, hc.1, hc.2, ans o (.bl _) hr⟩
  · exact o.elim
theorem snd_neD : Snd2 K hNe (rNeD K) := by
  intro E ι H h x y dx dy Q rx ry hr o
  unfold hNe at o
  split at o
  · rename_i hc; exact ⟨ι, dx, dy, rx, ry, hc.1, hc.2, ans o (.bl _) hr⟩
  · exact o.elim
end
section
variable {X : Cx} {E : XD} {K : PySem.W.Frag}
def sDNew : SE := fun _ h => .ok (.ref h.length) (h ++ [.dK []])
theorem me_dnew {pos : Pos} : ME X E (.Dict [] [] pos) sDNew := by
  refine PE.weak pe_dnewK fun σ H Q ⟨ι, τ, h, S, Rh, o⟩ => fun p hp => ?_
  exact o (ι ++ [p]) _ _ (gr_add hp _) (.ref (by rw [List.getElem?_append_right (by rw [Rh.len]; exact Nat.le_refl _), Rh.len]; simp)) (Rh.add hp ⟨[], upd_same, rfl, .nil⟩)
def gIAdd : D → D → Hd → R D
  | .int i, .int j, h => .ok (.int (i + j)) h
  | .str x, .str y, h => if x.length + y.length ≤ LINE then .ok (.str (x ++ y)) h else .no
  | _, _, _ => .no
theorem snd_iadd : Snd2 K gIAdd (fun x y H Q => rI0 (fun i j => .int (i + j)) x y H Q ∨ ∃ i j, x = .str i ∧ y = .str j ∧ i.length + j.length ≤ sizeLine ∧ Q (.str (i ++ j)) H) := by
  intro E ι H h x y dx dy Q rx ry hr o
  cases rx with
  | int i =>
    cases ry with
    | int j => exact .inl ⟨i, j, rfl, rfl, ans o (.int _) hr⟩
    | _ => exact o.elim
  | str i =>
    cases ry with
    | str j =>
      by_cases hc : i.length + j.length ≤ LINE
      · simp only [gIAdd, if_pos hc] at o; exact .inr ⟨i, j, rfl, rfl, ll hc, ans o (.str _) hr⟩
      · simp only [gIAdd, if_neg hc] at o; exact o.elim
    | _ => exact o.elim
  | _ => exact o.elim
theorem bt_min : bootBuiltins "min" = some (.builtin "min") := by first | exact PySem.boot_min | exact PyProof.Rows.boot_min
theorem bt_bool : bootBuiltins "bool" = some (.type "bool") := by first | exact PySem.boot_bool | exact PyProof.Rows.boot_bool
end
end MI
set_option Elab.async false
set_option linter.all false
set_option maxRecDepth 100000
set_option maxHeartbeats 4000000
namespace ZP
open PySem PySem.Spec PySem.Builtin PySem.Builtin.SmallTypes
section
variable {prog : Program} {w : World} {A : Around} {E : Value → Shared → Prop} {s : Shared}
end
end ZP
set_option Elab.async false
set_option linter.all false
set_option maxRecDepth 100000
set_option maxHeartbeats 4000000
namespace ZP
open PySem PySem.Spec PySem.Builtin PySem.Builtin.SmallTypes
structure Ap (z TI TO i1 i2 : Addr) (p q : List Addr) : Prop where
  m1 : i1 ∈ p
  m2 : i2 ∈ q
  z1 : z ∉ p
  z2 : z ∉ q
  o1 : TO ∉ p
  o2 : TO ∉ q
  oz : TO ≠ z
  x1 : i1 ∉ q
  x2 : i2 ∉ p
section
variable {prog : Program} {w : World} {A : Around} {E : Value → Shared → Prop} {s : Shared} {z TI TO i1 i2 : Addr} {p q : List Addr} {n1 n2 k : Nat} {P1 P2 : Nat → Value → Prop} {S1 S2 : Nat → Heap → Prop} {a b : Value}
theorem far {D : Draws prog w A i1 p n1 P1 S1} {h h' : Heap} {c : Addr} (sb : Heap.SameBut c h h') (nc : c ∉ p) (st : S1 k h) : S1 k h' := D.frame _ _ _ st fun x hx o e => sb.extBut x o (fun y => nc (y ▸ hx)) e
end
end ZP
set_option Elab.async false
set_option linter.all false
set_option maxRecDepth 100000
set_option maxHeartbeats 4000000
namespace ZP
open PySem PySem.Spec PySem.Builtin PySem.Builtin.SmallTypes L2
inductive Srk where
  | tup (a : Addr) | lst (a : Addr) | str (x : Str)
def Srk.v : Srk → V
  | .tup a => .ref a
  | .lst a => .ref a
  | .str x => .str x
def its (H : Hp) : Srk → Option (List V)
  | .tup a => match H a with | some (.tup vs) => some vs | _ => none
  | .lst a => match H a with | some (.lst vs) => some vs | _ => none
  | .str x => some (signsV x)
def own (it : Addr) (t : Tok) : Srk → Nat → Heap → Prop
  | .tup a, i, h => h.IsTupleIter it a i
  | .lst a, i, h => h.IsListIter it a i
  | .str x, i, h => h.IsStrIter it (strIterType x) x t i
def val (t : Tok) : Srk → Value
  | .tup a => .ref a
  | .lst a => .ref a
  | .str x => .str x t
def cont (h : Heap) : Srk → List Value → Prop
  | .tup a, us => h.IsTuple a us.toArray
  | .lst a, us => h.IsList a us.toArray
  | .str x, us => True
section
variable {P : Program} {w : World} {H : Hp} {s : Shared}
end
structure Far (z TI TO i1 i2 : Addr) : Prop where
  a : TI ≠ z
  b : TO ≠ z
  c : i1 ≠ z
  d : i2 ≠ z
  e : TI ≠ TO
  f : TI ≠ i1
  g : TI ≠ i2
  h : TO ≠ i1
  i : TO ≠ i2
  j : i1 ≠ i2
end ZP
set_option Elab.async false
set_option linter.all false
set_option maxRecDepth 100000
set_option maxHeartbeats 4000000
namespace ZP
open PySem PySem.Spec PySem.Builtin PySem.Builtin.SmallTypes L2
section
variable {X : Cx} {elts : List Expr} {x1 : Nat} {tpos : Pos}
end
end ZP
namespace MI
open PySem PySem.Spec L2 ZP
def srcOf (d : D) (h : Hd) : Option (List D × (Hd → Prop)) := match d with
  | .tup xs => some (xs, fun _ => True)
  | .str x => some (signsD x, fun _ => True)
  | .ref i => (match h[i]? with | some (.lst xs) => some (xs, fun h => h[i]? = some (.lst xs)) | _ => none)
  | _ => none
def gZip (x y : D) (h : Hd) : R Itm := match srcOf x h, srcOf y h with
  | some (xs, c1), some (ys, c2) => .ok ⟨(xs.zip ys).map fun p => .tup [p.1, p.2], fun h => c1 h ∧ c2 h⟩ h
  | _, _ => .no
def sZip (f g : SE) : SI := fun τ h => (f τ h).bind fun x h1 => (g τ h1).bind fun y h2 => gZip x y h2
end MI
set_option Elab.async false
set_option linter.all false
set_option maxRecDepth 100000
set_option maxHeartbeats 4000000
namespace MI
open PySem PySem.Spec L2
open Classical in
noncomputable def gcF (F : SF) : SF := fun ds h => match F ds h with
  | .ok d h1 => if h.length ≤ h1.length ∧ (clo h.length d ∨ d ∈ ds) ∧ ∀ (i : Nat) (o : O), i < h.length → h1[i]? = some o → h[i]? = some o ∨ cloO h.length o then .ok d (h1.take h.length) else .ok d h1
  | r => r
theorem clos_mem {n : Nat} : ∀ {ds : List D} {d : D}, clos n ds → d ∈ ds → clo n d
  | [], _, _, h => by cases h
  | x :: xs, d, c, h => by
    simp only [clos] at c
    rcases List.mem_cons.mp h with rfl | h
    · exact c.1
    · exact clos_mem c.2 h
theorem gc_rf {b : SS} {n : Nat} (ds : List D) (h : Hd) (c1 : clos h.length ds) (c2 : cloH h.length h) : Rf h.length (bodyR b n ds h) (gcF (bodyR b n) ds h) := by
  unfold gcF
  cases e : bodyR b n ds h with
  | no => exact True.intro
  | ex c h1 => exact Rf.same rfl
  | ok d h1 =>
    dsimp only
    split
    · rename_i hc
      obtain ⟨l, cd, co⟩ := hc
      refine ⟨h1.drop h.length, by rw [List.take_append_drop], .inr ⟨by rw [List.length_take]; omega, ?_, fun o ho => ?_⟩⟩
      · rw [List.length_take, Nat.min_eq_left l]
        rcases cd with cd | cd
        · exact cd
        · exact clos_mem c1 cd
      · rw [List.length_take, Nat.min_eq_left l]
        obtain ⟨i, hi⟩ := List.getElem?_of_mem ho
        have hl : i < h.length := by
          have := (List.getElem?_eq_some_iff.mp hi).1
          rw [List.length_take] at this; omega
        rw [List.getElem?_take, if_pos hl] at hi
        rcases co i o hl hi with z | z
        · exact c2 o (List.mem_of_getElem? z)
        · exact z
    · exact Rf.same rfl
theorem gc_eq {F : SF} {ds : List D} {h h' g : Hd} {d : D} (e : F ds h = .ok d (h' ++ g)) (l : h'.length = h.length) (cd : clo h.length d ∨ d ∈ ds) (co : ∀ (i : Nat) (o : O), h'[i]? = some o → h[i]? = some o ∨ cloO h.length o) : gcF F ds h = .ok d h' := by
  unfold gcF
  rw [e]
  dsimp only
  rw [if_pos, ← l, List.take_left]
  refine ⟨by rw [List.length_append]; omega, cd, fun i o hi ho => co i o ?_⟩
  rwa [List.getElem?_append_left (by omega)] at ho
theorem gc_pure {F : SF} {ds : List D} {h g : Hd} {d : D} (e : F ds h = .ok d (h ++ g)) (cd : clo h.length d ∨ d ∈ ds) : gcF F ds h = .ok d h := gc_eq e rfl cd fun _ _ z => .inl z
theorem gc_same {F : SF} {ds : List D} {h : Hd} {d : D} (e : F ds h = .ok d h) : gcF F ds h = .ok d h := by
  unfold gcF
  rw [e]
  dsimp only
  split
  · rw [List.take_length]
  · rfl
section
variable {P : Program} {w : World} {K : PySem.W.Frag} {mg : Str → Option Value} {base : Heap}
theorem def_gc {x qual : Str} {st : Stmt} {f : Addr} {fd : FuncData} {N ps : List Str} {k : Nat} {b : SS} (Fu : Fun K x qual st f fd) (S : FnScope N ps (defScope st))
    (hb : ∀ (cdv : Value) (A : Around) (outer : List Env) (s : Shared) (H : Hp) (E : XK), Room k (A.deeper (PyProof.Rows.envOfC qual (defScope st) s.heap.objs.size f cdv)) → MSs (cxOf CX0 P w K mg base N qual (defScope st) f cdv A outer s H E).nox X0 (defBody st) b) :
    FnOk P w K mg base CX0 (k + 1) f fd ps (spOf K ps.length (gcF (bodyR b N.length))) := def_ok Fu S hb fun ds h _ c1 c2 => gc_rf ds h c1 c2
theorem fn_no {k : Nat} {f : Addr} {fd : FuncData} {ps : List Str} : FnOk P w K mg base CX0 k f fd ps (spOf K ps.length fun _ _ => .no) :=
  ⟨fun vs H Q E h => h.1, fun A outer s H args us vs Q E hr he hb hv hs => by obtain ⟨_, ι, ds, h, _, _, o⟩ := hs; exact o.elim⟩
end
end MI
set_option Elab.async false
set_option linter.all false
set_option maxRecDepth 100000
set_option maxHeartbeats 4000000
namespace MI
open PySem PySem.Spec L2 HT
theorem item_whole {prog : Program} {w : World} {A : Around} {E : Value → Shared → Prop} {s : Shared} {t sl : Addr} {items : Array Value} {vl vu : Value} {lo hi : Option Int} {Q : Value → Shared → Prop} (ht : PyProof.Rows.IsTup s.heap t items) (hs : s.heap.IsSliceOf sl vl vu .none) (pl : IsPart vl lo) (pu : IsPart vu hi)
    (hw : HT.sIx items.size 0 lo = 0 ∧ HT.sIx items.size items.size hi = items.size) (h : Q (.ref t) s) : wpAny (model prog w) A (getItem (.ref t) (.ref sl)) Q E s := by
  obtain ⟨os, f1, f2, f3⟩ := id hs
  have ty : s.TypeIs (.ref sl) "slice" := ⟨os, f1, f2⟩
  have tt : s.TypeIs (.ref t) "tuple" := ht.typeIs
  rw [getItem]
  try apply wpAny_holding
  first | (apply wpAny_bind; apply wpAny_pure) | skip
  apply wpAny_bind; apply wpAny_sequenceKey tt (by decide)
  apply wpAny_bind
  apply wpAny_callSpecial?_slot (name := Str.ofString "__getitem__") tt PyProof.Rows.slot_tuple_getitem
  apply wpAny_call_entry PyProof.Rows.slot_tuple_getitem tt PyProof.Rows.entry_tuple_getitem _ (PyProof.Rows.args_tuple_getitem _ _)
  change wpAny (model prog w) A.in1 (Builtin.Tuple.tupleItemsOf (.ref t) >>= _) _ _ s
  apply wpAny_bind; apply PyProof.Rows.tupleItemsOf_ ht
  apply wpAny_bind; apply wpAny_typeOf ty
  rw [if_pos (by decide)]
  apply wpAny_bind; apply HT.sliceApplied_gen hs pl pu
  rw [hw.1, hw.2]
  dsimp only
  rw [if_pos (by simp)]
  apply wpAny_bind
  rw [Builtin.Tuple.tupleIsExact]
  apply wpAny_bind; apply wpAny_typeOf tt
  apply wpAny_pure
  rw [if_pos (by decide)]
  apply wpAny_bind; apply wpAny_rule
  apply wpAny_pure
  exact ⟨_, rfl, wpAny_pure h⟩
def rSlW (K : PySem.W.Frag) : V → Option Int → Option Int → Hp → VK → Prop := fun x lo hi H Q => ∃ a xs, x = .ref a ∧ SqT K H a xs ∧ whole xs.length lo hi ∧ Q (.ref a) H
theorem sl_whole {X : Cx} : SlR X (rSlW X.K) := by
  intro pins s σ H x v vl vu lo hi sl Q I rx hs pl pu h
  obtain ⟨a, xs, rfl, hx, hw, q⟩ := h
  cases rx
  obtain ⟨its, r, ht, hz⟩ := I.tuple hx
  have hlen : its.toArray.size = xs.length := by rw [List.size_toArray]; exact r.length.symm
  exact ⟨"tuple", _, PyProof.Rows.slot_tuple_getitem.lookup, ht.typeIs, item_whole ht hs pl pu (by rw [hlen]; exact hw) ⟨.ref a, H, I, rfl, q⟩⟩
def gSl2 (d : D) (lo hi : Option Int) (h : Hd) : R D := match d with
  | .tup xs => if whole xs.length lo hi then .ok (.tup xs) h else .ok (.tup (cutL xs lo hi)) h
  | d => gSl d lo hi h
def sSl2 (f : SE) (l u : SO) : SE := fun τ h => (f τ h).bind fun d h1 => (l τ h1).bind fun lo h2 => (u τ h2).bind fun hi h3 => gSl2 d lo hi h3
theorem snd_sl2 {K : PySem.W.Frag} {E : XD} {ι : List Addr} {H : Hp} {h : Hd} {x : V} {d : D} {lo hi : Option Int} {Q : VK} (rx : Rep K ι H x d) (hr : HRep K ι H h) (o : out K E (repD K) ι H (gSl2 d lo hi h) Q) : (rSlS x lo hi H Q ∨ rSlT K x lo hi H Q ∨ rSlL K x lo hi H Q) ∨ rSlW K x lo hi H Q := by
  cases rx with
  | @tup p vs xs hp r =>
    by_cases hc : whole xs.length lo hi
    · simp only [gSl2, if_pos hc] at o
      exact .inr ⟨p, vs, rfl, SqT.of hp, by rw [r.len]; exact hc, ans o (.tup hp r) hr⟩
    · simp only [gSl2, if_neg hc] at o
      exact .inl (.inr (.inl ⟨p, vs, rfl, SqT.of hp, by rw [r.len]; exact hc, new_tup (reps_cut r lo hi) hr o⟩))
  | non => exact o.elim
  | bl _ => exact o.elim
  | int _ => exact o.elim
  | ty _ => exact o.elim
  | str z => exact .inl (snd_sl (.str z) hr o)
  | rol a b => exact .inl (snd_sl (.rol a b) hr o)
  | ref a => exact .inl (snd_sl (.ref a) hr o)
theorem me_slice2 {X : Cx} {E : XD} {e : Expr} {fa : SE} {lo hi : Option Expr} {l u : SO} {p2 pos : Pos} (he : ME X E e fa) (hl : MO X E lo l) (hu : MO X E hi u) : ME X E (.Subscript e (.Slice lo hi none p2) pos) (sSl2 fa l u) := by
  refine PE.weak (pe_slice ((sl_str.or (sl_tup.or sl_list)).or sl_whole) he hl hu) fun σ H Q ⟨ι, τ, h, S, Rh, o⟩ => ?_
  refine ⟨ι, τ, h, S, Rh, out_bind o fun d h1 ι1 H1 v g1 r1 hr1 o1 => ?_⟩
  refine ⟨ι1, τ, h1, S.mono g1, hr1, out_bind o1 fun lo h2 ι2 H2 lv g2 r2 hr2 o2 => ?_⟩
  refine ⟨ι2, τ, h2, (S.mono g1).mono g2, hr2, out_bind o2 fun hi h3 ι3 H3 hv g3 r3 hr3 o3 => ?_⟩
  cases r2; cases r3
  exact snd_sl2 ((r1.mono g2).mono g3) hr3 o3
theorem cut_whole {α : Type} (xs : List α) (lo hi : Option Int) (h : whole xs.length lo hi) : cutL xs lo hi = xs := by
  unfold cutL
  rw [h.1, h.2]
  simp
theorem gSl2_tup (xs : List D) (lo hi : Option Int) (h : Hd) : gSl2 (.tup xs) lo hi h = .ok (.tup (cutL xs lo hi)) h := by
  by_cases hc : whole xs.length lo hi
  · simp only [gSl2, if_pos hc, cut_whole xs lo hi hc]
  · simp only [gSl2, if_neg hc]
end MI
set_option Elab.async false
set_option linter.all false
set_option maxRecDepth 100000
set_option maxHeartbeats 4000000
namespace TPM
open PySem PySem.Spec PySem.W L2 HT MI
theorem noFill_tuple_mul : fillsNumberSlot (.type "tuple") "mul" = pure false :=
  fillsNumberSlot_seq (id := "tuple.__mul__") (r := some (.builtin "tuple.__rmul__")) F.slot_tuple_mul.lookup (by decide +kernel) F.slot_tuple_rmul.lookup (by decide +kernel)
theorem tuple_rep (t : Addr) (items : Array Value) (n : Nat) (dd : Option Addr) (sl : Array (Option Value)) (x : Int) (u : Tok) (h0 : items.isEmpty = false) (h2 : 2 ≤ x) (h3 : x < 2 ^ 63) (hz : items.size * x.toNat ≤ sizeLine) :
    Meets (Builtin.«tuple.__mul__» ⟨[.ref t, .int x u], []⟩) (fun _ R s => s.heap.get? t = some { cls := .type "tuple", dict := dd, data := .seq items n, slots := sl } ∧ R (.ok (.ret (.ref s.heap.objs.size))) { s with heap := s.heap.push { cls := .type "tuple", data := .seq (List.foldl (fun x1 x2 => x1 ++ x2) #[] (List.replicate x.toNat items)) } }) :=
  .of_wp fun prog w A R s h => by
    obtain ⟨hp, g, d, tk, os⟩ := s; obtain ⟨hl, h⟩ := h
    have c1 : ¬ (decide (x < -2 ^ 63) || decide (x ≥ 2 ^ 63)) = true := by
      rw [Bool.or_eq_true, decide_eq_true_eq, decide_eq_true_eq]; omega
    have c2 : ¬ (items.isEmpty || x == 1) = true := by
      rw [h0, Bool.false_or]; simp; omega
    have c3 : ¬ (decide (x ≤ 0) || items.isEmpty) = true := by
      rw [h0, Bool.or_false, decide_eq_true_eq]; omega
    have ex : ((items.size : Nat) : Int) * x = ((items.size * x.toNat : Nat) : Int) := by
      rw [Int.natCast_mul, Int.toNat_of_nonneg (by omega)]
    have sl' : (sizeLine : Nat) ≤ (2 ^ 63 - 1) / 8 := by decide
    have c4 : ¬ (items.size : Int) * x > (2 ^ 63 - 1) / 8 := by rw [ex]; omega
    have c5 : ¬ Builtin.Tuple.tupleTooMany ((items.size : Int) * x) = true := by
      rw [ex]
      simp only [Builtin.Tuple.tupleTooMany, decide_eq_true_eq]; omega
    wp_walk
    rw [if_neg c1]
    wp_walk
    rw [if_neg c2]
    wp_walk
    rw [if_neg c3]
    wp_walk
    rw [if_neg c4]
    wp_walk
    rw [if_neg c5]
    wp_walk
    have fs : ¬ (List.foldl (fun x1 x2 => x1 ++ x2) #[] (List.replicate x.toNat items)).size > sizeLine := by
      have := foldl_rep items.toList x.toNat []
      rw [List.nil_append, Array.toArray_toList] at this
      rw [show (#[] : Array Value) = ([] : List Value).toArray from rfl, this, List.size_toArray, len_rep, Array.length_toList, Nat.mul_comm]
      omega
    rw [if_neg fs]
    wp_walk
    exact ⟨_, rfl, h⟩
theorem int_rmul_tup (a : Int) (t : Tok) (l : Addr) (items : Array Value) (n : Nat) (dd : Option Addr) (sl : Array (Option Value)) :
    Meets (Builtin.«int.__rmul__» ⟨[.int a t, .ref l], []⟩) (fun _ R s => s.heap.get? l = some { cls := .type "tuple", dict := dd, data := .seq items n, slots := sl } ∧ R (.ok (.ret Value.notImplemented)) s) := by
  refine .of_wp fun prog w A R s h => ?_
  obtain ⟨hp, g, d, tk, os⟩ := s
  obtain ⟨hl, h⟩ := h
  wp_walk
  exact ⟨_, rfl, h⟩
theorem rep_tuple : seqRepeat? (.type "tuple") = pure (some (.builtin "tuple.__mul__")) := by
  unfold seqRepeat?
  rw [seqSlot_of (T := "tuple") (name := "__mul__") (id := "tuple.__mul__") F.slot_tuple_mul.lookup (by decide +kernel), seqSlot_of (T := "tuple") (name := "__rmul__") (id := "tuple.__rmul__") F.slot_tuple_rmul.lookup (by decide +kernel)]
  rfl
def rRepT (K : PySem.W.Frag) : R2 := fun x y H Q => ∃ a k xs, x = .ref a ∧ y = .int k ∧ SqT K H a xs ∧ xs ≠ [] ∧ 2 ≤ k ∧ k < 2 ^ 63 ∧ xs.length * k.toNat ≤ sizeLine ∧ ∀ p, H p = none → Q (.ref p) (upd H p (.tup (List.replicate k.toNat xs).flatten))
theorem op_repT {X : Cx} : OpR X (binaryOp .Mult) (rRepT X.K) := by
  intro pins s σ H x y v u Q I rx ry h
  obtain ⟨a, k, xs, rfl, rfl, ha, hx, h1, h2, hz, q⟩ := h
  cases rx
  obtain ⟨t, rfl⟩ := ry
  obtain ⟨its, r1, p1, _⟩ := I.tuple ha
  obtain ⟨⟨cls, dd, data, sl⟩, ho, hc, n, hd⟩ := id p1
  simp only at hc hd
  subst hc hd
  have he : its.toArray.isEmpty = false := by
    cases its with
    | nil => exact (hx (r1.nil_iff.mp rfl)).elim
    | cons _ _ => rfl
  have hz2 : its.toArray.size * k.toNat ≤ sizeLine := by rw [List.size_toArray, ← r1.length]; exact hz
  have hnew : List.foldl (fun x1 x2 => x1 ++ x2) #[] (List.replicate k.toNat its.toArray) = (List.replicate k.toNat its).flatten.toArray := by
    have := foldl_rep its k.toNat []
    rw [List.nil_append] at this
    exact this
  refine wpAny_binaryOp_repeat_ref (T := "tuple") (U := "int") (by decide) ⟨_, ho, rfl⟩ (fun s' => typeIs_int s' k t) noFill_tuple_mul F.fills_int_mul F.slot_int_rmul rep_tuple F.slot_int_index.lookup
    (call_meets F.slot_int_rmul (typeIs_int s k t) F.entry_int_rmul (F.args_int_rmul_2 _ _) (int_rmul_tup k t a its.toArray n dd sl)
      ⟨ho, rfl, ⟨_, ho, rfl⟩, call_meets F.slot_tuple_mul ⟨_, ho, rfl⟩ F.entry_tuple_mul (F.args_tuple_mul_2 _ _) (tuple_rep a its.toArray n dd sl k t he h1 h2 hz2) ⟨ho, ?_⟩⟩)
  rw [hnew]
  refine ⟨.ref s.heap.objs.size, _, I.laid (t' := s.toks) (o := .tup (List.replicate k.toNat xs).flatten) (fun b ob q => Heap.get?_push_of_some _ q) (Nat.le_refl _) ?_, rfl, q _ (I.hok.fresh (Nat.le_refl _))⟩
  exact ⟨by rw [len_rep, Nat.mul_comm]; exact hz, _, r1.rep k.toNat, PyProof.Rows.IsTup.new _ _⟩
end TPM
namespace MI
open PySem PySem.Spec L2 TPM
open Classical in
noncomputable def gMul2 (x y : D) (h : Hd) : R D := match x, y with
  | .tup xs, .int k => if (xs ≠ [] ∧ 2 ≤ k ∧ k < 2 ^ 63) ∧ xs.length * k.toNat ≤ LINE then .ok (.tup (List.replicate k.toNat xs).flatten) h else .no
  | x, y => gMul x y h
theorem snd_mul2 {K : PySem.W.Frag} : Snd2 K gMul2 (fun x y H Q => (rI CMul (fun i j => .int (i * j)) x y H Q ∨ rRep x y H Q) ∨ rRepT K x y H Q) := by
  intro E ι H h x y dx dy Q rx ry hr o
  cases rx with
  | @tup a vs xs ha rs =>
    cases ry with
    | int k =>
      simp only [gMul2] at o
      split at o
      · rename_i hc
        refine .inr ⟨a, k, vs, rfl, rfl, SqT.of ha, fun z => ?_, hc.1.2.1, hc.1.2.2, ll (by rw [rs.len]; exact hc.2), new_tup (rs.flat _) hr o⟩
        subst z
        cases rs
        exact hc.1.1 rfl
      · exact o.elim
    | _ => exact o.elim
  | int i => exact .inl (snd_mul _ _ _ _ _ _ _ _ _ (.int i) ry hr o)
  | ref e => exact .inl (snd_mul _ _ _ _ _ _ _ _ _ (.ref e) ry hr o)
  | _ => exact o.elim
theorem me_mul2 {X : Cx} {E : XD} {a b : Expr} {fa fb : SE} {pos : Pos} (ha : ME X E a fa) (hb : ME X E b fb) : ME X E (.BinOp a .Mult b pos) (s2 gMul2 fa fb) := me_op ((op_mul.or op_rep).or op_repT) snd_mul2 ha hb
end MI
set_option Elab.async false
set_option linter.all false
set_option maxRecDepth 100000
set_option maxHeartbeats 4000000
namespace K04
open PySem PySem.Spec L2 MI
def top (i : Nat) : Stmt := PySem.Challenge.pw_nearreach_k04_shapes_of_anything.main.body.getD i (.Pass ⟨0, 0, 0, 0⟩)
structure Nm (mg : Str → Option Value) : Prop where
  abs : mg "abs" = none
  all : mg "all" = none
  bool : mg "bool" = none
  int : mg "int" = none
  isinstance : mg "isinstance" = none
  len : mg "len" = none
  list : mg "list" = none
  min : mg "min" = none
  ord : mg "ord" = none
  range : mg "range" = none
  set : mg "set" = none
  str : mg "str" = none
  tuple : mg "tuple" = none
structure Cn (mg : Str → Option Value) : Prop where
  DEEPEST : ∃ t, mg "DEEPEST" = some (.int 5 t)
  MOST_PARTS : ∃ t, mg "MOST_PARTS" = some (.int 24 t)
noncomputable def b_is_number : SS :=
 (sRet (sAndV (sA gIsi (sCons (sV 0) (sCons (sC (.ty "int")) sNil))) (sNotV (sA gIsi (sCons (sV 0) (sCons (sC (.ty "bool")) sNil))))))
noncomputable def b_is_number_from (F_is_number : SF) : SS :=
 (sRet (sAndV (sA (sN 1 F_is_number) (sCons (sV 0) sNil)) (sCh gLe gLe (sV 1) (sV 0) (sV 2))))
noncomputable def b_is_row : SS :=
 (sRet (sAndV (sA gIsi (sCons (sV 0) (sCons (sC (.ty "tuple")) sNil))) (sCh gLe gLe (sV 1) (sA gLen (sCons (sV 0) sNil)) (sV 2))))
noncomputable def b_is_sign : SS :=
 (sSeq (sIf (sOr (sNot (sTru (sA gIsi (sCons (sV 0) (sCons (sC (.ty "str")) sNil))))) (sT (s2 hNe (sA gLen (sCons (sV 0) sNil)) (sC (.int 1)))))
  (sRet (sC (.bl false)))
  sNx)
 (sSeq (sIf (sT (s2 hEq (sV 0) (sC (.str "\n"))))
  (sRet (sC (.bl true)))
  sNx)
 (sRet (sAndV (sCh gLe gLe (sC (.str " ")) (sV 0) (sC (.str "~"))) (s2 hNe (sA gOrd (sCons (sV 0) sNil)) (sC (.int 37)))))))
noncomputable def b_is_unlike_signs (F_is_sign : SF) : SS :=
 (sSeq (sIf (sOr (sNot (sTru (sA gIsi (sCons (sV 0) (sCons (sC (.ty "str")) sNil))))) (sNot (sT (sCh gLe gLe (sC (.int 1)) (sA gLen (sCons (sV 0) sNil)) (sC (.int 6))))))
  (sRet (sC (.bl false)))
  sNx)
 (sRet (sAndV (s2 hEq (s1 gLenSet (sV 0)) (sA gLen (sCons (sV 0) sNil))) (sA gAll (sCons (sComp (sIt (sV 0)) t1 (sA (sN 1 F_is_sign) (sCons (sV 0) sNil)) []) sNil)))))
noncomputable def b_is_shape (F_parts_count : SF) : SS :=
 (sRet (s2 gGt (sA (sN 3 F_parts_count) (sCons (sV 0) (sCons (sC (.int 5)) (sCons (sC (.int 24)) sNil)))) (sC (.int 0))))
noncomputable def b_parts_count (F_inner : SF) (F_is_form : SF) (F_parts_count : SF) : SS :=
 (sSeq (sIf (sOr (sT (s2 gLt (sV 1) (sC (.int 1)))) (sOr (sT (s2 gLt (sV 2) (sC (.int 1)))) (sNot (sTru (sA (sN 1 F_is_form) (sCons (sV 0) sNil))))))
  (sRet (sC (.int 0)))
  sNx)
 (sSeq (sSet 3 (sC (.int 1)))
 (sSeq (sFor (sIt (sA (sN 1 F_inner) (sCons (sV 0) sNil))) (kN 4) (sSeq (sSet 5 (sA (sN 3 F_parts_count) (sCons (sV 4) (sCons (s2 gSub (sV 1) (sC (.int 1))) (sCons (s2 gSub (sV 2) (sV 3)) sNil)))))
 (sSeq (sIf (sT (s2 hEq (sV 5) (sC (.int 0))))
  (sRet (sC (.int 0)))
  sNx)
 (sAug 3 gIAdd (sV 5)))))
 (sRet (sV 3)))))
noncomputable def b_is_form (F_are_times : SF) (F_is_row : SF) (F_is_unlike_signs : SF) : SS :=
 (sSeq (sIf (sOr (sNot (sTru (sA (sN 3 F_is_row) (sCons (sV 0) (sCons (sC (.int 2)) (sCons (sC (.int 4)) sNil)))))) (sNot (sTru (sA gIsi (sCons (s2 gIx (sV 0) (sC (.int 0))) (sCons (sC (.ty "str")) sNil))))))
  (sRet (sC (.bl false)))
  sNx)
 (sSeq (sIf (sT (s2 hEq (s2 gIx (sV 0) (sC (.int 0))) (sC (.str "one"))))
  (sRet (sAndV (s2 hEq (sA gLen (sCons (sV 0) sNil)) (sC (.int 2))) (sA (sN 1 F_is_unlike_signs) (sCons (s2 gIx (sV 0) (sC (.int 1))) sNil))))
  sNx)
 (sSeq (sIf (sT (s2 hEq (s2 gIx (sV 0) (sC (.int 0))) (sC (.str "row"))))
  (sRet (sAndV (s2 hEq (sA gLen (sCons (sV 0) sNil)) (sC (.int 2))) (sA (sN 3 F_is_row) (sCons (s2 gIx (sV 0) (sC (.int 1))) (sCons (sC (.int 0)) (sCons (sC (.int 6)) sNil))))))
  sNx)
 (sSeq (sIf (sT (s2 hEq (s2 gIx (sV 0) (sC (.int 0))) (sC (.str "either"))))
  (sRet (sAndV (s2 hEq (sA gLen (sCons (sV 0) sNil)) (sC (.int 2))) (sA (sN 3 F_is_row) (sCons (s2 gIx (sV 0) (sC (.int 1))) (sCons (sC (.int 1)) (sCons (sC (.int 6)) sNil))))))
  sNx)
 (sSeq (sIf (sT (s2 hEq (s2 gIx (sV 0) (sC (.int 0))) (sC (.str "many"))))
  (sRet (s2 hEq (sA gLen (sCons (sV 0) sNil)) (sC (.int 2))))
  sNx)
 (sRet (sAndV (s2 hEq (s2 gIx (sV 0) (sC (.int 0))) (sC (.str "times"))) (sAndV (s2 hEq (sA gLen (sCons (sV 0) sNil)) (sC (.int 4))) (sA (sN 2 F_are_times) (sCons (s2 gIx (sV 0) (sC (.int 2))) (sCons (s2 gIx (sV 0) (sC (.int 3))) sNil)))))))))))
noncomputable def b_are_times (F_is_number_from : SF) : SS :=
 (sRet (sAndV (sA (sN 3 F_is_number_from) (sCons (sV 1) (sCons (sC (.int 0)) (sCons (sC (.int 4)) sNil)))) (sA (sN 3 F_is_number_from) (sCons (sV 0) (sCons (sC (.int 0)) (sCons (sV 1) sNil))))))
noncomputable def b_inner : SS :=
 (sSeq (sIf (sT (s2 hEq (s2 gIx (sV 0) (sC (.int 0))) (sC (.str "one"))))
  (sRet (sA gTup sNil))
  sNx)
 (sSeq (sIf (sOr (sT (s2 hEq (s2 gIx (sV 0) (sC (.int 0))) (sC (.str "row")))) (sT (s2 hEq (s2 gIx (sV 0) (sC (.int 0))) (sC (.str "either")))))
  (sRet (s2 gIx (sV 0) (sC (.int 1))))
  sNx)
 (sRet (sA gTup (sCons (s2 gIx (sV 0) (sC (.int 1))) sNil)))))
noncomputable def b_law_pen : SS :=
 (sRet (sA gLst (sCons (sSl2 (sV 0) oN (oS (sC (.int 63)))) (sCons (sC (.int 0)) (sCons (sC (.int 0)) sNil)))))
noncomputable def b_law_take : SS :=
 (sSeq (sIf (sT (s2 gGt (s2 gIx (sV 0) (sC (.int 2))) (sC (.int 0))))
  (sSeq (sSet 2 (s2 gMod (s2 gIx (sV 0) (sC (.int 2))) (sV 1)))
 (sSeq (sPut (s2 gDiv (s2 gIx (sV 0) (sC (.int 2))) (sV 1)) (sV 0) (sC (.int 2)))
 (sRet (sV 2))))
  sNx)
 (sSeq (sSet 3 (s2 gIx (sV 0) (sC (.int 1))))
 (sSeq (sPut (s2 gAdd (sV 3) (sC (.int 1))) (sV 0) (sC (.int 1)))
 (sSeq (sSet 4 (sC (.int 5)))
 (sSeq (sIf (sT (s2 gGt (sA gLen (sCons (s2 gIx (sV 0) (sC (.int 0))) sNil)) (sC (.int 0))))
  (sSet 4 (s2 gIx (s2 gIx (sV 0) (sC (.int 0))) (s2 gMod (sV 3) (sA gLen (sCons (s2 gIx (sV 0) (sC (.int 0))) sNil)))))
  sNx)
 (sSeq (sIf (sAnd (sT (s2 gLt (sV 3) (sA gLen (sCons (s2 gIx (sV 0) (sC (.int 0))) sNil)))) (sT (s2 gGe (sA gAbs (sCons (sV 4) sNil)) (s2 gPow (sC (.int 10)) (sC (.int 18))))))
  (sSeq (sSet 5 (s2 gAdd (s2 gMul (sC (.int 2)) (sA gAbs (sCons (sV 4) sNil))) (sA gInt (sCons (s2 gLt (sV 4) (sC (.int 0))) sNil))))
 (sSeq (sPut (s2 gDiv (sV 5) (sV 1)) (sV 0) (sC (.int 2)))
 (sRet (s2 gMod (sV 5) (sV 1)))))
  sNx)
 (sSeq (sSet 6 (s2 gMod (s2 gPow (s2 gAdd (s2 gAdd (s2 gMod (sV 4) (sC (.int 2147483587))) (s2 gMul (sC (.int 40709)) (sV 3))) (sC (.int 31))) (sC (.int 3))) (sC (.int 2147483647))))
 (sSeq (sSet 6 (s2 gMod (s2 gAdd (s2 gAdd (s2 gMul (sV 6) (sV 6)) (s2 gMul (sC (.int 48271)) (sV 6))) (sV 3)) (sC (.int 2147483629))))
 (sRet (s2 gMod (s2 gDiv (sV 6) (sC (.int 64))) (sV 1)))))))))))
noncomputable def b_law_signs : SS :=
 (sSeq (sSet 0 (sC (.str " !\"#$&'()*+,-./0123456789:;<=>?@ABCDEFGHIJKLMNOPQRSTUVWXYZ[\\]^_`")))
 (sRet (s2 gAdd (sV 0) (sC (.str "abcdefghijklmnopqrstuvwxyz{|}~\n")))))
noncomputable def b_law_some (F_law_take : SF) : SS :=
 (sSeq (sSet 3 (sC (.str "")))
 (sSeq (sFor (sRg gRng1 (sCons (s2 gAdd (sC (.int 1)) (sA (sN 2 F_law_take) (sCons (sV 0) (sCons (sV 2) sNil)))) sNil)) (kN 4) (sSeq (sSet 5 (sA (sN 2 F_law_take) (sCons (sV 0) (sCons (sA gLen (sCons (sV 1) sNil)) sNil))))
 (sSeq (sSet 3 (s2 gAdd (sV 3) (s2 gIx (sV 1) (sV 5))))
 (sSet 1 (s2 gAdd (sSl2 (sV 1) oN (oS (sV 5))) (sSl2 (sV 1) (oS (s2 gAdd (sV 5) (sC (.int 1)))) oN))))))
 (sRet (sV 3))))
noncomputable def b_law_shape (F_law_shape : SF) (F_law_some : SF) (F_law_take : SF) : SS :=
 (sSeq (sSet 4 (sA (sN 2 F_law_take) (sCons (sV 0) (sCons (sC (.int 10)) sNil))))
 (sSeq (sIf (sAnd (sT (s2 hEq (sV 2) (sC (.int 5)))) (sT (s2 gLt (sV 4) (sC (.int 2)))))
  (sSet 4 (s2 gAdd (sV 4) (sC (.int 4))))
  sNx)
 (sSeq (sIf (sAnd (sT (s2 hEq (sV 4) (sC (.int 9)))) (sT (s2 hEq (sA (sN 2 F_law_take) (sCons (sV 0) (sCons (sC (.int 2)) sNil))) (sC (.int 0)))))
  (sRet (sA gTup (sCons (sC (.str "row")) (sCons (sA gTup sNil) sNil))))
  sNx)
 (sSeq (sIf (sOr (sT (s2 hEq (sV 2) (sC (.int 1)))) (sOr (sT (s2 gLt (s2 gIx (sV 1) (sC (.int 0))) (sC (.int 1)))) (sT (s2 gLt (sV 4) (sC (.int 2))))))
  (sRet (sA gTup (sCons (sC (.str "one")) (sCons (sA (sN 3 F_law_some) (sCons (sV 0) (sCons (sV 3) (sCons (sA gLen (sCons (sV 3) sNil)) sNil)))) sNil))))
  sNx)
 (sSeq (sIf (sT (s2 gLt (sV 4) (sC (.int 4))))
  (sSeq (sPut (s2 gSub (s2 gIx (sV 1) (sC (.int 0))) (sC (.int 1))) (sV 1) (sC (.int 0)))
 (sSeq (sSet 5 (sA (sN 4 F_law_shape) (sCons (sV 0) (sCons (sV 1) (sCons (s2 gSub (sV 2) (sC (.int 1))) (sCons (sV 3) sNil))))))
 (sSeq (sIf (sT (s2 hEq (sV 4) (sC (.int 2))))
  (sRet (sA gTup (sCons (sC (.str "many")) (sCons (sV 5) sNil))))
  sNx)
 (sSeq (sSet 6 (sA (sN 2 F_law_take) (sCons (sV 0) (sCons (sC (.int 5)) sNil))))
 (sRet (sA gTup (sCons (sC (.str "times")) (sCons (sV 5) (sCons (sV 6) (sCons (s2 gAdd (sV 6) (sA (sN 2 F_law_take) (sCons (sV 0) (sCons (s2 gSub (sC (.int 5)) (sV 6)) sNil)))) sNil))))))))))
  sNx)
 (sSeq (sSet 7 (sA gMin2 (sCons (s2 gIx (sV 1) (sC (.int 0))) (sCons (s2 gAdd (sC (.int 1)) (sA (sN 2 F_law_take) (sCons (sV 0) (sCons (s2 gIx (sA gLst (sCons (sC (.int 2)) (sCons (sC (.int 3)) (sCons (sC (.int 6)) sNil)))) (sA (sN 2 F_law_take) (sCons (sV 0) (sCons (sC (.int 3)) sNil)))) sNil)))) sNil))))
 (sSeq (sPut (s2 gSub (s2 gIx (sV 1) (sC (.int 0))) (sV 7)) (sV 1) (sC (.int 0)))
 (sSeq (sSet 8 (sA gTuple (sCons (sComp (sRg gRng1 (sCons (sV 7) sNil)) t1 (sA (sN 4 F_law_shape) (sCons (sV 1) (sCons (sV 2) (sCons (s2 gSub (sV 3) (sC (.int 1))) (sCons (sV 4) sNil))))) [0, 1, 2, 3]) sNil)))
 (sRet (sA gTup (sCons (s2 gIx (sA gLst (sCons (sC (.str "row")) (sCons (sC (.str "either")) sNil))) (sA gInt (sCons (s2 gGt (sV 4) (sC (.int 6))) sNil))) (sCons (sV 8) sNil))))))))))))
noncomputable def b_law_inner : SS :=
 (sSeq (sIf (sT (s2 hEq (s2 gIx (sV 0) (sC (.int 0))) (sC (.str "one"))))
  (sRet (sA gTup sNil))
  sNx)
 (sSeq (sIf (sOr (sT (s2 hEq (s2 gIx (sV 0) (sC (.int 0))) (sC (.str "row")))) (sT (s2 hEq (s2 gIx (sV 0) (sC (.int 0))) (sC (.str "either")))))
  (sRet (s2 gIx (sV 0) (sC (.int 1))))
  sNx)
 (sRet (sA gTup (sCons (s2 gIx (sV 0) (sC (.int 1))) sNil)))))
noncomputable def b_law_parts (F_law_inner : SF) (F_law_parts : SF) : SS :=
 (sSeq (sSet 1 (sA gLst (sCons (sV 0) sNil)))
 (sSeq (sFor (sIt (sA (sN 1 F_law_inner) (sCons (sV 0) sNil))) (kN 2) (sSet 1 (s2 gAdd (sV 1) (sA (sN 1 F_law_parts) (sCons (sV 2) sNil)))))
 (sRet (sV 1))))
noncomputable def b_law_put (F_law_inner : SF) (F_law_parts : SF) (F_law_put : SF) : SS :=
 (sSeq (sIf (sT (s2 hEq (sV 1) (sC (.int 0))))
  (sRet (sV 2))
  sNx)
 (sSeq (sSet 1 (s2 gSub (sV 1) (sC (.int 1))))
 (sSeq (sSet 3 (sA gList (sCons (sA (sN 1 F_law_inner) (sCons (sV 0) sNil)) sNil)))
 (sSeq (sFor (sRg gRng1 (sCons (sA gLen (sCons (sV 3) sNil)) sNil)) (kN 4) (sSeq (sSet 5 (sA gLen (sCons (sA (sN 1 F_law_parts) (sCons (s2 gIx (sV 3) (sV 4)) sNil)) sNil)))
 (sSeq (sIf (sT (sCh gLe gLt (sC (.int 0)) (sV 1) (sV 5)))
  (sPut (sA (sN 3 F_law_put) (sCons (s2 gIx (sV 3) (sV 4)) (sCons (sV 1) (sCons (sV 2) sNil)))) (sV 3) (sV 4))
  sNx)
 (sSet 1 (s2 gSub (sV 1) (sV 5))))))
 (sSeq (sIf (sT (s2 hEq (s2 gIx (sV 0) (sC (.int 0))) (sC (.str "times"))))
  (sRet (sA gTup (sCons (sC (.str "times")) (sCons (s2 gIx (sV 3) (sC (.int 0))) (sCons (s2 gIx (sV 0) (sC (.int 2))) (sCons (s2 gIx (sV 0) (sC (.int 3))) sNil))))))
  sNx)
 (sSeq (sIf (sT (s2 hEq (s2 gIx (sV 0) (sC (.int 0))) (sC (.str "many"))))
  (sRet (sA gTup (sCons (sC (.str "many")) (sCons (s2 gIx (sV 3) (sC (.int 0))) sNil))))
  sNx)
 (sRet (sA gTup (sCons (s2 gIx (sV 0) (sC (.int 0))) (sCons (sA gTuple (sCons (sV 3) sNil)) sNil))))))))))
noncomputable def b_law_odd_ones (F_law_signs : SF) (F_law_some : SF) (F_law_take : SF) : SS :=
 (sSeq (sSet 1 (sA (sN 3 F_law_some) (sCons (sV 0) (sCons (sA (sN 0 F_law_signs) sNil) (sCons (sC (.int 5)) sNil)))))
 (sSeq (sSet 2 (sA (sN 2 F_law_take) (sCons (sV 0) (sCons (s2 gAdd (sA gLen (sCons (sV 1) sNil)) (sC (.int 1))) sNil))))
 (sSeq (sSet 3 (s2 gAdd (s2 gAdd (sSl2 (sV 1) oN (oS (sV 2))) (s2 gIx (sV 1) (sA (sN 2 F_law_take) (sCons (sV 0) (sCons (sA gLen (sCons (sV 1) sNil)) sNil))))) (sSl2 (sV 1) (oS (sV 2)) oN)))
 (sSeq (sSet 4 (sA (sN 2 F_law_take) (sCons (sV 0) (sCons (sC (.int 88)) sNil))))
 (sSeq (sSet 5 (sA gLst (sCons (sA gTup (sCons (sC (.str "one")) (sCons (sV 3) sNil))) (sCons (sA gTup (sCons (sC (.str "one")) (sCons (s2 gAdd (s2 gAdd (sSl2 (sV 1) oN (oS (sV 2))) (sC (.str "\t"))) (sSl2 (sV 1) (oS (sV 2)) oN)) sNil))) (sCons (sA gTup (sCons (sC (.str "one")) (sCons (sSl2 (sA (sN 0 F_law_signs) sNil) (oS (sV 4)) (oS (s2 gAdd (sV 4) (sC (.int 7))))) sNil))) sNil)))))
 (sSeq (sSet 5 (s2 gAdd (sV 5) (sA gLst (sCons (sA gTup (sCons (sC (.str "one")) (sCons (sC (.str "")) sNil))) (sCons (sA gTup (sCons (sC (.str "one")) sNil)) (sCons (sA gTup (sCons (sC (.str "one")) (sCons (sV 1) (sCons (sV 1) sNil)))) (sCons (sA gTup (sCons (sC (.str "one")) (sCons (sC .non) sNil))) (sCons (sA gTup (sCons (sC (.str "one")) (sCons (sA gLst (sCons (sV 1) sNil)) sNil))) (sCons (sA gTup (sCons (sC (.str "one")) (sCons (sA gTup (sCons (sV 1) sNil)) sNil))) sNil)))))))))
 (sSeq (sSet 5 (s2 gAdd (sV 5) (sA gLst (sCons (sA gLst (sCons (sC (.str "one")) (sCons (sV 1) sNil))) (sCons (sV 1) (sCons (sA gTup (sCons (sC (.str "One")) (sCons (sV 1) sNil))) (sCons (sA gTup (sCons (sC (.str "ones")) (sCons (sV 1) sNil))) (sCons (sA gTup (sCons (sV 1) (sCons (sC .non) sNil))) (sCons (sA gTup (sCons (sC (.str "")) (sCons (sV 1) sNil))) (sCons (sA gTup (sCons (sC (.str "one")) (sCons (sC (.int 3)) sNil))) sNil))))))))))
 (sSeq (sSet 5 (s2 gAdd (sV 5) (sA gLst (sCons (sA gTup (sCons (sC (.int 1)) (sCons (sV 1) sNil))) (sCons (sA gTup (sCons (sC .non) (sCons (sV 1) sNil))) (sCons (sA gTup (sCons (sA gTup (sCons (sC (.str "one")) sNil)) (sCons (sV 1) sNil))) (sCons (sA gTup (sCons (sC (.bl true)) (sCons (sV 1) sNil))) (sCons (sC .non) (sCons (sC (.int 7)) (sCons (sC (.bl true)) (sCons (sA gTup sNil) (sCons sDNew sNil))))))))))))
 (sRet (s2 gAdd (sV 5) (sA gLst (sCons (sC (.str "one")) (sCons (sA gLst sNil) (sCons (s1 gNeg (sC (.int 1))) (sCons (sA gTup (sCons (sA gLst (sCons (sC (.str "one")) sNil)) (sCons (sV 1) sNil))) (sCons (sA gTup (sCons sDNew (sCons (sV 1) sNil))) sNil))))))))))))))))
noncomputable def b_law_odd_parts (F_law_take : SF) : SS :=
 (sSeq (sSet 2 (sA gLst (sCons (sA gTup (sCons (sC (.str "row")) (sCons (sA gLst (sCons (sV 1) sNil)) sNil))) (sCons (sA gTup (sCons (sC (.str "row")) (sCons (s2 gMul2 (sA gTup (sCons (sV 1) sNil)) (sC (.int 7))) sNil))) (sCons (sA gTup (sCons (sC (.str "row")) sNil)) (sCons (sA gTup (sCons (sC (.str "row")) (sCons (sV 1) sNil))) (sCons (sA gTup (sCons (sC (.str "row")) (sCons (sA gTup sNil) (sCons (sA gTup sNil) sNil)))) (sCons (sA gTup (sCons (sC (.str "row")) (sCons (sC .non) sNil))) sNil))))))))
 (sSeq (sDrop (sML gApp (sV 2) (sCons (sA gTup (sCons (sC (.str "rows")) (sCons (sA gTup sNil) sNil))) sNil)))
 (sSeq (sSet 2 (s2 gAdd (sV 2) (sA gLst (sCons (sA gTup (sCons (sC (.str "either")) (sCons (sA gTup sNil) sNil))) (sCons (sA gTup (sCons (sC (.str "either")) (sCons (sA gLst (sCons (sV 1) sNil)) sNil))) (sCons (sA gTup (sCons (sC (.str "either")) (sCons (s2 gMul2 (sA gTup (sCons (sV 1) sNil)) (sC (.int 7))) sNil))) (sCons (sA gTup (sCons (sC (.str "either")) (sCons (sV 1) sNil))) (sCons (sA gTup (sCons (sC (.str "either")) sNil)) sNil))))))))
 (sSeq (sSet 2 (s2 gAdd (sV 2) (sA gLst (sCons (sA gTup (sCons (sC (.str "either")) (sCons (sA gTup (sCons (sV 1) sNil)) (sCons (sC (.int 1)) sNil)))) (sCons (sA gTup (sCons (sC (.str "many")) sNil)) (sCons (sA gTup (sCons (sC (.str "many")) (sCons (sV 1) (sCons (sV 1) sNil)))) (sCons (sA gTup (sCons (sC (.str "many")) (sCons (sA gTup (sCons (sV 1) sNil)) sNil))) (sCons (sA gTup (sCons (sC (.str "many")) (sCons (sA gLst (sCons (sV 1) sNil)) sNil))) sNil))))))))
 (sSeq (sSet 2 (s2 gAdd (sV 2) (sA gLst (sCons (sA gTup (sCons (sC (.str "many")) (sCons (sC .non) sNil))) (sCons (sA gTup (sCons (sC (.str "Many")) (sCons (sV 1) sNil))) (sCons (sA gTup (sCons (sC (.str "times")) (sCons (sV 1) sNil))) (sCons (sA gTup (sCons (sC (.str "times")) (sCons (sV 1) (sCons (sC (.int 1)) sNil)))) (sCons (sA gTup (sCons (sC (.str "times")) (sCons (sV 1) (sCons (sC (.int 1)) (sCons (sC (.int 2)) (sCons (sC (.int 3)) sNil)))))) sNil))))))))
 (sSeq (sSet 3 (s2 gAdd (sC (.int 1)) (sA (sN 2 F_law_take) (sCons (sV 0) (sCons (sC (.int 4)) sNil)))))
 (sSeq (sSet 2 (s2 gAdd (sV 2) (sA gLst (sCons (sA gTup (sCons (sC (.str "times")) (sCons (sV 1) (sCons (sV 3) (sCons (s2 gSub (sV 3) (sC (.int 1))) sNil))))) (sCons (sA gTup (sCons (sC (.str "times")) (sCons (sV 1) (sCons (s1 gNeg (sV 3)) (sCons (sV 3) sNil))))) (sCons (sA gTup (sCons (sC (.str "times")) (sCons (sV 1) (sCons (sV 3) (sCons (sC (.int 5)) sNil))))) sNil))))))
 (sSeq (sSet 2 (s2 gAdd (sV 2) (sA gLst (sCons (sA gTup (sCons (sC (.str "times")) (sCons (sV 1) (sCons (sC (.int 0)) (sCons (s2 gAdd (sC (.int 4)) (sV 3)) sNil))))) (sCons (sA gTup (sCons (sC (.str "times")) (sCons (sV 1) (sCons (sC (.bl false)) (sCons (sV 3) sNil))))) (sCons (sA gTup (sCons (sC (.str "times")) (sCons (sV 1) (sCons (sC (.int 1)) (sCons (sC (.bl true)) sNil))))) sNil))))))
 (sSeq (sSet 2 (s2 gAdd (sV 2) (sA gLst (sCons (sA gTup (sCons (sC (.str "times")) (sCons (sV 1) (sCons (sC .non) (sCons (sV 3) sNil))))) (sCons (sA gTup (sCons (sC (.str "times")) (sCons (sV 1) (sCons (sC (.int 0)) (sCons (sC (.str "1")) sNil))))) (sCons (sA gTup (sCons (sC (.str "times")) (sCons (sV 1) (sCons (sA gTup (sCons (sC (.int 0)) sNil)) (sCons (sV 3) sNil))))) sNil))))))
 (sRet (s2 gAdd (sV 2) (sA gLst (sCons (sA gLst (sCons (sC (.str "times")) (sCons (sV 1) (sCons (sC (.int 0)) (sCons (sC (.int 1)) sNil))))) (sCons (sA gTup (sCons (sC (.str "times")) (sCons (sC (.int 0)) (sCons (sC (.int 1)) (sCons (sV 1) sNil))))) (sCons (sA gTup (sCons (sC (.str "times")) (sCons (sA gTup (sCons (sV 1) sNil)) (sCons (sC (.int 0)) (sCons (sC (.int 1)) sNil))))) (sCons (sA gTup (sCons (sC (.str "many")) (sCons (sA gTup (sCons (sC (.str "many")) sNil)) sNil))) sNil))))))))))))))))
noncomputable def b_law_deep (F_law_take : SF) : SS :=
 (sSeq (sFor (sRg gRng1 (sCons (sV 2) sNil)) (kN 3) (sSeq (sSet 4 (s2 gMul (sA gLst (sCons (sA gTup (sCons (sC (.str "one")) (sCons (sC (.str "a")) sNil))) sNil)) (sA (sN 2 F_law_take) (sCons (sV 0) (sCons (sC (.int 4)) sNil)))))
 (sSeq (sSet 5 (sA (sN 2 F_law_take) (sCons (sV 0) (sCons (s2 gAdd (sA gLen (sCons (sV 4) sNil)) (sC (.int 1))) sNil))))
 (sSeq (sSet 6 (sA gTuple (sCons (s2 gAdd (s2 gAdd (sSl2 (sV 4) oN (oS (sV 5))) (sA gLst (sCons (sV 1) sNil))) (sSl2 (sV 4) (oS (sV 5)) oN)) sNil)))
 (sSeq (sSet 7 (sA (sN 2 F_law_take) (sCons (sV 0) (sCons (sC (.int 4)) sNil))))
 (sSet 1 (s2 gIx (sA gLst (sCons (sA gTup (sCons (sC (.str "many")) (sCons (sV 1) sNil))) (sCons (sA gTup (sCons (sC (.str "times")) (sCons (sV 1) (sCons (sC (.int 0)) (sCons (sV 7) sNil))))) (sCons (sA gTup (sCons (sC (.str "row")) (sCons (sV 6) sNil))) (sCons (sA gTup (sCons (sC (.str "either")) (sCons (sV 6) sNil))) sNil))))) (sV 7))))))))
 (sRet (sV 1)))
noncomputable def b_law_counted (F_law_take : SF) : SS :=
 (sSeq (sSet 3 (sA gLst sNil))
 (sSeq (sWh (sT (s2 gGt (sV 2) (sC (.int 0)))) (sSeq (sSet 4 (sA (sN 2 F_law_take) (sCons (sV 0) (sCons (sC (.int 4)) sNil))))
 (sIf (sOr (sT (s2 gLt (sV 2) (sC (.int 2)))) (sT (s2 gLt (sV 4) (sC (.int 2)))))
  (sSeq (sDrop (sML gApp (sV 3) (sCons (sV 1) sNil)))
 (sSet 2 (s2 gSub (sV 2) (sC (.int 1)))))
  (sSeq (sDrop (sML gApp (sV 3) (sCons (s2 gIx (sA gLst (sCons (sA gTup (sCons (sC (.str "many")) (sCons (sV 1) sNil))) (sCons (sA gTup (sCons (sC (.str "times")) (sCons (sV 1) (sCons (sC (.int 1)) (sCons (sC (.int 3)) sNil))))) sNil))) (s2 gSub (sV 4) (sC (.int 2)))) sNil)))
 (sSet 2 (s2 gSub (sV 2) (sC (.int 2))))))) 100000)
 (sRet (sA gTuple (sCons (sV 3) sNil)))))
noncomputable def b_law_wide (F_law_counted : SF) (F_law_take : SF) : SS :=
 (sSeq (sSet 3 (sA gLst (sCons (sC (.str "row")) (sCons (sC (.str "either")) sNil))))
 (sSeq (sSet 4 (sA gLst sNil))
 (sSeq (sSet 5 (s2 gSub (sV 2) (sC (.int 1))))
 (sSeq (sFor (sRg gRng1 (sCons (sC (.int 4)) sNil)) (kN 6) (sSeq (sSet 7 (sA gMin2 (sCons (sC (.int 6)) (sCons (s2 gSub (sV 5) (s2 gMul (sC (.int 4)) (s2 gSub (sC (.int 3)) (sV 6)))) sNil))))
 (sSeq (sDrop (sML gApp (sV 4) (sCons (sA gTup (sCons (s2 gIx (sV 3) (sA (sN 2 F_law_take) (sCons (sV 0) (sCons (sC (.int 2)) sNil)))) (sCons (sA (sN 3 F_law_counted) (sCons (sV 0) (sCons (sV 1) (sCons (s2 gSub (sV 7) (sC (.int 1))) sNil)))) sNil))) sNil)))
 (sSet 5 (s2 gSub (sV 5) (sV 7))))))
 (sSeq (sSet 8 (sA (sN 2 F_law_take) (sCons (sV 0) (sCons (sC (.int 4)) sNil))))
 (sRet (sA gTup (sCons (s2 gIx (sV 3) (sA (sN 2 F_law_take) (sCons (sV 0) (sCons (sC (.int 2)) sNil)))) (sCons (sA gTuple (sCons (s2 gAdd (sSl2 (sV 4) (oS (sV 8)) oN) (sSl2 (sV 4) oN (oS (sV 8)))) sNil)) sNil)))))))))
noncomputable def b_law (F_law_deep : SF) (F_law_odd_ones : SF) (F_law_odd_parts : SF) (F_law_parts : SF) (F_law_pen : SF) (F_law_put : SF) (F_law_shape : SF) (F_law_signs : SF) (F_law_some : SF) (F_law_take : SF) (F_law_wide : SF) (F_is_shape : SF) : SS :=
 (sSeq (sSet 1 (sA (sN 1 F_law_pen) (sCons (sV 0) sNil)))
 (sSeq (sFor (sRg gRng1 (sCons (sC (.int 4)) sNil)) (kN 2) (sSeq (sSet 3 (sA (sN 2 F_law_take) (sCons (sV 1) (sCons (sC (.int 2)) sNil))))
 (sSeq (sSet 4 (sA (sN 4 F_law_shape) (sCons (sV 1) (sCons (sA gLst (sCons (sC (.int 23)) sNil)) (sCons (sC (.int 5)) (sCons (sA (sN 3 F_law_some) (sCons (sV 1) (sCons (sA (sN 0 F_law_signs) sNil) (sCons (sC (.int 6)) sNil)))) sNil))))))
 (sSeq (sSet 5 (s2 gIx (sA (sN 1 F_law_parts) (sCons (sV 4) sNil)) (s1 gNeg (sC (.int 1)))))
 (sSeq (sSet 6 (s2 gIx (sA gLst (sCons (sA (sN 1 F_law_odd_ones) (sCons (sV 1) sNil)) (sCons (sA (sN 2 F_law_odd_parts) (sCons (sV 1) (sCons (sV 5) sNil))) sNil))) (sV 3)))
 (sSeq (sSet 7 (sA (sN 2 F_law_take) (sCons (sV 1) (sCons (sA gLen (sCons (sA (sN 1 F_law_parts) (sCons (sV 4) sNil)) sNil)) sNil))))
 (sSeq (sSet 8 (sA (sN 3 F_law_put) (sCons (sV 4) (sCons (sV 7) (sCons (s2 gIx (sV 6) (sA (sN 2 F_law_take) (sCons (sV 1) (sCons (sA gLen (sCons (sV 6) sNil)) sNil)))) sNil)))))
 (sIf (sOr (sT (s2 gIsNot (sA (sN 1 F_is_shape) (sCons (sV 4) sNil)) (sC (.bl true)))) (sOr (sT (s2 gIsNot (sA (sN 1 F_is_shape) (sCons (sV 8) sNil)) (sC (.bl false)))) (sT (s2 gIsNot (sA (sN 1 F_is_shape) (sCons (sV 4) sNil)) (sC (.bl true))))))
  (sRet (sC (.bl false)))
  sNx))))))))
 (sSeq (sSet 9 (sA gTup (sCons (sC (.str "one")) (sCons (sA (sN 3 F_law_some) (sCons (sV 1) (sCons (sA (sN 0 F_law_signs) sNil) (sCons (sC (.int 6)) sNil)))) sNil))))
 (sSeq (sIf (sOr (sT (s2 gIsNot (sA (sN 1 F_is_shape) (sCons (sA (sN 3 F_law_deep) (sCons (sV 1) (sCons (sV 9) (sCons (sC (.int 4)) sNil)))) sNil)) (sC (.bl true)))) (sT (s2 gIsNot (sA (sN 1 F_is_shape) (sCons (sA (sN 3 F_law_deep) (sCons (sV 1) (sCons (sV 9) (sCons (sC (.int 5)) sNil)))) sNil)) (sC (.bl false)))))
  (sRet (sC (.bl false)))
  sNx)
 (sSeq (sIf (sOr (sT (s2 gIsNot (sA (sN 1 F_is_shape) (sCons (sA (sN 3 F_law_deep) (sCons (sV 1) (sCons (sA gTup (sCons (sC (.str "row")) (sCons (sA gTup sNil) sNil))) (sCons (sC (.int 4)) sNil)))) sNil)) (sC (.bl true)))) (sT (s2 gIsNot (sA (sN 1 F_is_shape) (sCons (sA (sN 3 F_law_deep) (sCons (sV 1) (sCons (sA gTup (sCons (sC (.str "row")) (sCons (sA gTup sNil) sNil))) (sCons (sC (.int 5)) sNil)))) sNil)) (sC (.bl false)))))
  (sRet (sC (.bl false)))
  sNx)
 (sSeq (sSet 10 (s2 gAdd (sC (.int 20)) (sA (sN 2 F_law_take) (sCons (sV 1) (sCons (sC (.int 5)) sNil)))))
 (sSeq (sIf (sOr (sT (s2 gIsNot (sA (sN 1 F_is_shape) (sCons (sA (sN 3 F_law_wide) (sCons (sV 1) (sCons (sV 9) (sCons (sV 10) sNil)))) sNil)) (sC (.bl true)))) (sT (s2 gIsNot (sA (sN 1 F_is_shape) (sCons (sA (sN 3 F_law_wide) (sCons (sV 1) (sCons (sV 9) (sCons (sC (.int 24)) sNil)))) sNil)) (sC (.bl true)))))
  (sRet (sC (.bl false)))
  sNx)
 (sRet (sAndV (s2 gIs (sA (sN 1 F_is_shape) (sCons (sA (sN 3 F_law_wide) (sCons (sV 1) (sCons (sV 9) (sCons (sC (.int 25)) sNil)))) sNil)) (sC (.bl false))) (s2 gIs (sA (sN 1 F_is_shape) (sCons (sV 9) sNil)) (sC (.bl true))))))))))))
section
variable {P : Program} {w : World} {K : PySem.W.Frag} {mg : Str → Option Value} {base : Heap} {f : Addr}
theorem sc_is_number : FnScope ["thing"] ["thing"] (defScope (top 1)) := ⟨rfl, rfl, rfl, by decide +kernel, rfl, by decide +kernel, by decide +kernel⟩
theorem m_is_number {k : Nat} (M : Nm mg) (cdv : Value) (A : Around) (outer : List Env) (s : Shared) (H : Hp) (E : XK) (hr : Room k (A.deeper (PyProof.Rows.envOfC "is_number" (defScope (top 1)) s.heap.objs.size f cdv))) : MSs (cxOf CX0 P w K mg base ["thing"] "is_number" (defScope (top 1)) f cdv A outer s H E).nox X0 (defBody (top 1)) (b_is_number) :=
 have SC := sc_is_number
 (mss_one (ms_ret (me_and (me_fn call_isinst snd_isi rfl M.isinstance bt_isinstance (ma_cons (me_v 0) (ma_cons (me_ty rfl M.int bt_int) ma_nil))) (me_one (me_not (me_fn call_isinst snd_isi rfl M.isinstance bt_isinstance (ma_cons (me_v 0) (ma_cons (me_ty rfl M.bool bt_bool) ma_nil))))))))
theorem sc_is_number_from : FnScope ["thing", "low", "high"] ["thing", "low", "high"] (defScope (top 2)) := ⟨rfl, rfl, rfl, by decide +kernel, rfl, by decide +kernel, by decide +kernel⟩
theorem m_is_number_from {k : Nat} {a_is_number : Addr} {d_is_number : FuncData} {k_is_number : Nat} {F_is_number : SF} (D_is_number : Dn P w K mg base k_is_number "is_number" ["thing"] (spOf K 1 F_is_number) a_is_number d_is_number) (h_is_number : k_is_number ≤ k) (cdv : Value) (A : Around) (outer : List Env) (s : Shared) (H : Hp) (E : XK) (hr : Room k (A.deeper (PyProof.Rows.envOfC "is_number_from" (defScope (top 2)) s.heap.objs.size f cdv))) : MSs (cxOf CX0 P w K mg base ["thing", "low", "high"] "is_number_from" (defScope (top 2)) f cdv A outer s H E).nox X0 (defBody (top 2)) (b_is_number_from F_is_number) :=
 have SC := sc_is_number_from
 (mss_one (ms_ret (me_and (me_call D_is_number (hr.mono h_is_number) rfl (ma_cons (me_v 0) ma_nil)) (me_one (me_chain (op_le.or op_le_str) (op_le.or op_le_str) snd_le snd_le (me_v 1) (me_v 0) (me_v 2))))))
theorem sc_is_row : FnScope ["thing", "low", "high"] ["thing", "low", "high"] (defScope (top 3)) := ⟨rfl, rfl, rfl, by decide +kernel, rfl, by decide +kernel, by decide +kernel⟩
theorem m_is_row {k : Nat} (M : Nm mg) (cdv : Value) (A : Around) (outer : List Env) (s : Shared) (H : Hp) (E : XK) (hr : Room k (A.deeper (PyProof.Rows.envOfC "is_row" (defScope (top 3)) s.heap.objs.size f cdv))) : MSs (cxOf CX0 P w K mg base ["thing", "low", "high"] "is_row" (defScope (top 3)) f cdv A outer s H E).nox X0 (defBody (top 3)) (b_is_row) :=
 have SC := sc_is_row
 (mss_one (ms_ret (me_and (me_fn call_isinst snd_isi rfl M.isinstance bt_isinstance (ma_cons (me_v 0) (ma_cons (me_ty rfl M.tuple bt_tuple) ma_nil))) (me_one (me_chain (op_le.or op_le_str) (op_le.or op_le_str) snd_le snd_le (me_v 1) (me_fn (L2.CallR.or call_len_seq call_len_str) snd_len rfl M.len bt_len (ma_cons (me_v 0) ma_nil)) (me_v 2))))))
theorem sc_is_sign : FnScope ["thing"] ["thing"] (defScope (top 4)) := ⟨rfl, rfl, rfl, by decide +kernel, rfl, by decide +kernel, by decide +kernel⟩
theorem m_is_sign {k : Nat} (M : Nm mg) (cdv : Value) (A : Around) (outer : List Env) (s : Shared) (H : Hp) (E : XK) (hr : Room k (A.deeper (PyProof.Rows.envOfC "is_sign" (defScope (top 4)) s.heap.objs.size f cdv))) : MSs (cxOf CX0 P w K mg base ["thing"] "is_sign" (defScope (top 4)) f cdv A outer s H E).nox X0 (defBody (top 4)) (b_is_sign) :=
 have SC := sc_is_sign
 (mss_cons (ms_if (PW.pt (mw_or (mt_not (mt_val (me_fn call_isinst snd_isi rfl M.isinstance bt_isinstance (ma_cons (me_v 0) (ma_cons (me_ty rfl M.str bt_str) ma_nil))))) (mw_or1 (mt_cmpO (op_neD hr.u) snd_neD (me_fn (L2.CallR.or call_len_seq call_len_str) snd_len rfl M.len bt_len (ma_cons (me_v 0) ma_nil)) me_int (nomark _)))))
  (mss_one (ms_ret me_bl))
  mss_nil)
 (mss_cons (ms_if (mt_cmpO (op_eqD hr.u) snd_eqD (me_v 0) me_str (nomark _))
  (mss_one (ms_ret me_bl))
  mss_nil)
 (mss_one (ms_ret (me_and (me_chain (op_le.or op_le_str) (op_le.or op_le_str) snd_le snd_le me_str (me_v 0) me_str) (me_one (me_cmpO (op_neD hr.u) snd_neD (me_fn call_ord snd_ord rfl M.ord bt_ord (ma_cons (me_v 0) ma_nil)) me_int (nomark _))))))))
theorem sc_is_unlike_signs : FnScope ["thing"] ["thing"] (defScope (top 5)) := ⟨rfl, rfl, rfl, by decide +kernel, rfl, by decide +kernel, by decide +kernel⟩
theorem m_is_unlike_signs {k : Nat} (M : Nm mg) {a_is_sign : Addr} {d_is_sign : FuncData} {k_is_sign : Nat} {F_is_sign : SF} (D_is_sign : Dn P w K mg base k_is_sign "is_sign" ["thing"] (spOf K 1 F_is_sign) a_is_sign d_is_sign) (h_is_sign : k_is_sign ≤ k) (cdv : Value) (A : Around) (outer : List Env) (s : Shared) (H : Hp) (E : XK) (hr : Room k (A.deeper (PyProof.Rows.envOfC "is_unlike_signs" (defScope (top 5)) s.heap.objs.size f cdv))) : MSs (cxOf CX0 P w K mg base ["thing"] "is_unlike_signs" (defScope (top 5)) f cdv A outer s H E).nox X0 (defBody (top 5)) (b_is_unlike_signs F_is_sign) :=
 have SC := sc_is_unlike_signs
 (mss_cons (ms_if (PW.pt (mw_or (mt_not (mt_val (me_fn call_isinst snd_isi rfl M.isinstance bt_isinstance (ma_cons (me_v 0) (ma_cons (me_ty rfl M.str bt_str) ma_nil))))) (mw_or1 (mt_not (mt_chain (op_le.or op_le_str) (op_le.or op_le_str) snd_le snd_le me_int (me_fn (L2.CallR.or call_len_seq call_len_str) snd_len rfl M.len bt_len (ma_cons (me_v 0) ma_nil)) me_int)))))
  (mss_one (ms_ret me_bl))
  mss_nil)
 (mss_one (ms_ret (me_and (me_cmpO (op_eqD hr.u) snd_eqD (me_lenset rfl rfl M.len rfl M.set (me_v 0)) (me_fn (L2.CallR.or call_len_seq call_len_str) snd_len rfl M.len bt_len (ma_cons (me_v 0) ma_nil)) (nomark _)) (me_one (me_fn (call_all_bl rfl) snd_all rfl M.all bt_all (ma_cons (me_comp rfl (CSc.noFree (ts := ["sign"]) rfl (by decide +kernel) (by decide +kernel) (by decide +kernel)) (mi_seq (me_v 0)) (fun _ _ _ _ => (pg_name (i := 0) (show (["sign"] : List Str).Nodup by decide +kernel) rfl (Or.inl rfl) (.inr rfl))) tg_one (fun _ _ _ _ => (me_call D_is_sign (hr.mono h_is_sign) rfl (ma_cons (me_v 0) ma_nil)))) ma_nil)))))))
theorem sc_is_shape : FnScope ["thing"] ["thing"] (defScope (top 9)) := ⟨rfl, rfl, rfl, by decide +kernel, rfl, by decide +kernel, by decide +kernel⟩
theorem m_is_shape {k : Nat} (C : Cn mg) {a_parts_count : Addr} {d_parts_count : FuncData} {k_parts_count : Nat} {F_parts_count : SF} (D_parts_count : Dn P w K mg base k_parts_count "parts_count" ["thing", "deep", "most"] (spOf K 3 F_parts_count) a_parts_count d_parts_count) (h_parts_count : k_parts_count ≤ k) (cdv : Value) (A : Around) (outer : List Env) (s : Shared) (H : Hp) (E : XK) (hr : Room k (A.deeper (PyProof.Rows.envOfC "is_shape" (defScope (top 9)) s.heap.objs.size f cdv))) : MSs (cxOf CX0 P w K mg base ["thing"] "is_shape" (defScope (top 9)) f cdv A outer s H E).nox X0 (defBody (top 9)) (b_is_shape F_parts_count) :=
 have SC := sc_is_shape
 (mss_one (ms_ret (me_cmpO op_gt snd_gt (me_call D_parts_count (hr.mono h_parts_count) rfl (ma_cons (me_v 0) (ma_cons (me_gint rfl C.DEEPEST.choose_spec) (ma_cons (me_gint rfl C.MOST_PARTS.choose_spec) ma_nil)))) me_int (nomark _))))
theorem sc_parts_count : FnScope ["thing", "deep", "most", "count", "part", "more"] ["thing", "deep", "most"] (defScope (top 10)) := ⟨rfl, rfl, rfl, by decide +kernel, rfl, by decide +kernel, by decide +kernel⟩
theorem m_parts_count {k : Nat} {a_inner : Addr} {d_inner : FuncData} {k_inner : Nat} {F_inner : SF} (D_inner : Dn P w K mg base k_inner "inner" ["shape"] (spOf K 1 F_inner) a_inner d_inner) (h_inner : k_inner ≤ k) {a_is_form : Addr} {d_is_form : FuncData} {k_is_form : Nat} {F_is_form : SF} (D_is_form : Dn P w K mg base k_is_form "is_form" ["thing"] (spOf K 1 F_is_form) a_is_form d_is_form) (h_is_form : k_is_form ≤ k) {a_parts_count : Addr} {d_parts_count : FuncData} {k_parts_count : Nat} {F_parts_count : SF} (D_parts_count : Dn P w K mg base k_parts_count "parts_count" ["thing", "deep", "most"] (spOf K 3 F_parts_count) a_parts_count d_parts_count) (h_parts_count : k_parts_count ≤ k) (cdv : Value) (A : Around) (outer : List Env) (s : Shared) (H : Hp) (E : XK) (hr : Room k (A.deeper (PyProof.Rows.envOfC "parts_count" (defScope (top 10)) s.heap.objs.size f cdv))) : MSs (cxOf CX0 P w K mg base ["thing", "deep", "most", "count", "part", "more"] "parts_count" (defScope (top 10)) f cdv A outer s H E).nox X0 (defBody (top 10)) (b_parts_count F_inner F_is_form F_parts_count) :=
 have SC := sc_parts_count
 (mss_cons (ms_if (PW.pt (mw_or (mt_cmpO (op_lt.or op_lt_str) snd_lt (me_v 1) me_int (nomark _)) (mw_or (mt_cmpO (op_lt.or op_lt_str) snd_lt (me_v 2) me_int (nomark _)) (mw_or1 (mt_not (mt_val (me_call D_is_form (hr.mono h_is_form) rfl (ma_cons (me_v 0) ma_nil))))))))
  (mss_one (ms_ret me_int))
  mss_nil)
 (mss_cons (ms_set (i := 3) SC.nd rfl (Or.inl rfl) me_int)
 (mss_cons (ms_for PassesOwn.never rfl (mi_seq (me_call D_inner (hr.mono h_inner) rfl (ma_cons (me_v 0) ma_nil))) (mg_name (i := 4) SC.nd rfl (Or.inl rfl)) (mss_cons (ms_set (i := 5) SC.nd rfl (Or.inl rfl) (me_call D_parts_count (hr.mono h_parts_count) rfl (ma_cons (me_v 4) (ma_cons (me_sub (me_v 1) me_int) (ma_cons (me_sub (me_v 2) (me_v 3)) ma_nil)))))
 (mss_cons (ms_if (mt_cmpO (op_eqD hr.u) snd_eqD (me_v 5) me_int (nomark _))
  (mss_one (ms_ret me_int))
  mss_nil)
 (mss_one (ms_aug (i := 3) SC.nd rfl (Or.inl rfl) (iop_add.or iop_add_str) snd_iadd (me_v 5))))))
 (mss_one (ms_ret (me_v 3))))))
theorem sc_is_form : FnScope ["thing"] ["thing"] (defScope (top 11)) := ⟨rfl, rfl, rfl, by decide +kernel, rfl, by decide +kernel, by decide +kernel⟩
theorem m_is_form {k : Nat} (M : Nm mg) {a_are_times : Addr} {d_are_times : FuncData} {k_are_times : Nat} {F_are_times : SF} (D_are_times : Dn P w K mg base k_are_times "are_times" ["low", "high"] (spOf K 2 F_are_times) a_are_times d_are_times) (h_are_times : k_are_times ≤ k) {a_is_row : Addr} {d_is_row : FuncData} {k_is_row : Nat} {F_is_row : SF} (D_is_row : Dn P w K mg base k_is_row "is_row" ["thing", "low", "high"] (spOf K 3 F_is_row) a_is_row d_is_row) (h_is_row : k_is_row ≤ k) {a_is_unlike_signs : Addr} {d_is_unlike_signs : FuncData} {k_is_unlike_signs : Nat} {F_is_unlike_signs : SF} (D_is_unlike_signs : Dn P w K mg base k_is_unlike_signs "is_unlike_signs" ["thing"] (spOf K 1 F_is_unlike_signs) a_is_unlike_signs d_is_unlike_signs) (h_is_unlike_signs : k_is_unlike_signs ≤ k) (cdv : Value) (A : Around) (outer : List Env) (s : Shared) (H : Hp) (E : XK) (hr : Room k (A.deeper (PyProof.Rows.envOfC "is_form" (defScope (top 11)) s.heap.objs.size f cdv))) : MSs (cxOf CX0 P w K mg base ["thing"] "is_form" (defScope (top 11)) f cdv A outer s H E).nox X0 (defBody (top 11)) (b_is_form F_are_times F_is_row F_is_unlike_signs) :=
 have SC := sc_is_form
 (mss_cons (ms_if (PW.pt (mw_or (mt_not (mt_val (me_call D_is_row (hr.mono h_is_row) rfl (ma_cons (me_v 0) (ma_cons me_int (ma_cons me_int ma_nil)))))) (mw_or1 (mt_not (mt_val (me_fn call_isinst snd_isi rfl M.isinstance bt_isinstance (ma_cons (me_item (me_v 0) me_int (fun _ _ => rfl)) (ma_cons (me_ty rfl M.str bt_str) ma_nil))))))))
  (mss_one (ms_ret me_bl))
  mss_nil)
 (mss_cons (ms_if (mt_cmpO (op_eqD hr.u) snd_eqD (me_item (me_v 0) me_int (fun _ _ => rfl)) me_str (nomark _))
  (mss_one (ms_ret (me_and (me_cmpO (op_eqD hr.u) snd_eqD (me_fn (L2.CallR.or call_len_seq call_len_str) snd_len rfl M.len bt_len (ma_cons (me_v 0) ma_nil)) me_int (nomark _)) (me_one (me_call D_is_unlike_signs (hr.mono h_is_unlike_signs) rfl (ma_cons (me_item (me_v 0) me_int (fun _ _ => rfl)) ma_nil))))))
  mss_nil)
 (mss_cons (ms_if (mt_cmpO (op_eqD hr.u) snd_eqD (me_item (me_v 0) me_int (fun _ _ => rfl)) me_str (nomark _))
  (mss_one (ms_ret (me_and (me_cmpO (op_eqD hr.u) snd_eqD (me_fn (L2.CallR.or call_len_seq call_len_str) snd_len rfl M.len bt_len (ma_cons (me_v 0) ma_nil)) me_int (nomark _)) (me_one (me_call D_is_row (hr.mono h_is_row) rfl (ma_cons (me_item (me_v 0) me_int (fun _ _ => rfl)) (ma_cons me_int (ma_cons me_int ma_nil))))))))
  mss_nil)
 (mss_cons (ms_if (mt_cmpO (op_eqD hr.u) snd_eqD (me_item (me_v 0) me_int (fun _ _ => rfl)) me_str (nomark _))
  (mss_one (ms_ret (me_and (me_cmpO (op_eqD hr.u) snd_eqD (me_fn (L2.CallR.or call_len_seq call_len_str) snd_len rfl M.len bt_len (ma_cons (me_v 0) ma_nil)) me_int (nomark _)) (me_one (me_call D_is_row (hr.mono h_is_row) rfl (ma_cons (me_item (me_v 0) me_int (fun _ _ => rfl)) (ma_cons me_int (ma_cons me_int ma_nil))))))))
  mss_nil)
 (mss_cons (ms_if (mt_cmpO (op_eqD hr.u) snd_eqD (me_item (me_v 0) me_int (fun _ _ => rfl)) me_str (nomark _))
  (mss_one (ms_ret (me_cmpO (op_eqD hr.u) snd_eqD (me_fn (L2.CallR.or call_len_seq call_len_str) snd_len rfl M.len bt_len (ma_cons (me_v 0) ma_nil)) me_int (nomark _))))
  mss_nil)
 (mss_one (ms_ret (me_and (me_cmpO (op_eqD hr.u) snd_eqD (me_item (me_v 0) me_int (fun _ _ => rfl)) me_str (nomark _)) (me_and (me_cmpO (op_eqD hr.u) snd_eqD (me_fn (L2.CallR.or call_len_seq call_len_str) snd_len rfl M.len bt_len (ma_cons (me_v 0) ma_nil)) me_int (nomark _)) (me_one (me_call D_are_times (hr.mono h_are_times) rfl (ma_cons (me_item (me_v 0) me_int (fun _ _ => rfl)) (ma_cons (me_item (me_v 0) me_int (fun _ _ => rfl)) ma_nil)))))))))))))
theorem sc_are_times : FnScope ["low", "high"] ["low", "high"] (defScope (top 12)) := ⟨rfl, rfl, rfl, by decide +kernel, rfl, by decide +kernel, by decide +kernel⟩
theorem m_are_times {k : Nat} {a_is_number_from : Addr} {d_is_number_from : FuncData} {k_is_number_from : Nat} {F_is_number_from : SF} (D_is_number_from : Dn P w K mg base k_is_number_from "is_number_from" ["thing", "low", "high"] (spOf K 3 F_is_number_from) a_is_number_from d_is_number_from) (h_is_number_from : k_is_number_from ≤ k) (cdv : Value) (A : Around) (outer : List Env) (s : Shared) (H : Hp) (E : XK) (hr : Room k (A.deeper (PyProof.Rows.envOfC "are_times" (defScope (top 12)) s.heap.objs.size f cdv))) : MSs (cxOf CX0 P w K mg base ["low", "high"] "are_times" (defScope (top 12)) f cdv A outer s H E).nox X0 (defBody (top 12)) (b_are_times F_is_number_from) :=
 have SC := sc_are_times
 (mss_one (ms_ret (me_and (me_call D_is_number_from (hr.mono h_is_number_from) rfl (ma_cons (me_v 1) (ma_cons me_int (ma_cons me_int ma_nil)))) (me_one (me_call D_is_number_from (hr.mono h_is_number_from) rfl (ma_cons (me_v 0) (ma_cons me_int (ma_cons (me_v 1) ma_nil))))))))
theorem sc_inner : FnScope ["shape"] ["shape"] (defScope (top 13)) := ⟨rfl, rfl, rfl, by decide +kernel, rfl, by decide +kernel, by decide +kernel⟩
theorem m_inner {k : Nat} (cdv : Value) (A : Around) (outer : List Env) (s : Shared) (H : Hp) (E : XK) (hr : Room k (A.deeper (PyProof.Rows.envOfC "inner" (defScope (top 13)) s.heap.objs.size f cdv))) : MSs (cxOf CX0 P w K mg base ["shape"] "inner" (defScope (top 13)) f cdv A outer s H E).nox X0 (defBody (top 13)) (b_inner) :=
 have SC := sc_inner
 (mss_cons (ms_if (mt_cmpO (op_eqD hr.u) snd_eqD (me_item (me_v 0) me_int (fun _ _ => rfl)) me_str (nomark _))
  (mss_one (ms_ret (me_tup ma_nil)))
  mss_nil)
 (mss_cons (ms_if (PW.pt (mw_or (mt_cmpO (op_eqD hr.u) snd_eqD (me_item (me_v 0) me_int (fun _ _ => rfl)) me_str (nomark _)) (mw_or1 (mt_cmpO (op_eqD hr.u) snd_eqD (me_item (me_v 0) me_int (fun _ _ => rfl)) me_str (nomark _)))))
  (mss_one (ms_ret (me_item (me_v 0) me_int (fun _ _ => rfl))))
  mss_nil)
 (mss_one (ms_ret (me_tup (ma_cons (me_item (me_v 0) me_int (fun _ _ => rfl)) ma_nil))))))
theorem sc_law_pen : FnScope ["_law_script"] ["_law_script"] (defScope (top 15)) := ⟨rfl, rfl, rfl, by decide +kernel, rfl, by decide +kernel, by decide +kernel⟩
theorem m_law_pen {k : Nat} (cdv : Value) (A : Around) (outer : List Env) (s : Shared) (H : Hp) (E : XK) (hr : Room k (A.deeper (PyProof.Rows.envOfC "_law_pen" (defScope (top 15)) s.heap.objs.size f cdv))) : MSs (cxOf CX0 P w K mg base ["_law_script"] "_law_pen" (defScope (top 15)) f cdv A outer s H E).nox X0 (defBody (top 15)) (b_law_pen) :=
 have SC := sc_law_pen
 (mss_one (ms_ret (me_lst (ma_cons (me_slice2 (me_v 0) mo_none (mo_some me_int)) (ma_cons me_int (ma_cons me_int ma_nil))))))
theorem sc_law_take : FnScope ["_law_pen_here", "_law_many", "_law_found", "_law_at", "_law_cell", "_law_great", "_law_number"] ["_law_pen_here", "_law_many"] (defScope (top 16)) := ⟨rfl, rfl, rfl, by decide +kernel, rfl, by decide +kernel, by decide +kernel⟩
theorem m_law_take {k : Nat} (M : Nm mg) (cdv : Value) (A : Around) (outer : List Env) (s : Shared) (H : Hp) (E : XK) (hr : Room k (A.deeper (PyProof.Rows.envOfC "_law_take" (defScope (top 16)) s.heap.objs.size f cdv))) : MSs (cxOf CX0 P w K mg base ["_law_pen_here", "_law_many", "_law_found", "_law_at", "_law_cell", "_law_great", "_law_number"] "_law_take" (defScope (top 16)) f cdv A outer s H E).nox X0 (defBody (top 16)) (b_law_take) :=
 have SC := sc_law_take
 (mss_cons (ms_if (mt_cmpO op_gt snd_gt (me_item (me_v 0) me_int (fun _ _ => rfl)) me_int (nomark _))
  (mss_cons (ms_set (i := 2) SC.nd rfl (Or.inl rfl) (me_mod (me_item (me_v 0) me_int (fun _ _ => rfl)) (me_v 1)))
 (mss_cons (ms_put (me_div (me_item (me_v 0) me_int (fun _ _ => rfl)) (me_v 1)) (me_v 0) me_int)
 (mss_one (ms_ret (me_v 2)))))
  mss_nil)
 (mss_cons (ms_set (i := 3) SC.nd rfl (Or.inl rfl) (me_item (me_v 0) me_int (fun _ _ => rfl)))
 (mss_cons (ms_put (me_add (me_v 3) me_int) (me_v 0) me_int)
 (mss_cons (ms_set (i := 4) SC.nd rfl (Or.inl rfl) me_int)
 (mss_cons (ms_if (mt_cmpO op_gt snd_gt (me_fn (L2.CallR.or call_len_seq call_len_str) snd_len rfl M.len bt_len (ma_cons (me_item (me_v 0) me_int (fun _ _ => rfl)) ma_nil)) me_int (nomark _))
  (mss_one (ms_set (i := 4) SC.nd rfl (Or.inl rfl) (me_item (me_item (me_v 0) me_int (fun _ _ => rfl)) (me_mod (me_v 3) (me_fn (L2.CallR.or call_len_seq call_len_str) snd_len rfl M.len bt_len (ma_cons (me_item (me_v 0) me_int (fun _ _ => rfl)) ma_nil))) (fun _ _ => rfl))))
  mss_nil)
 (mss_cons (ms_if (PW.pt (mw_and (mt_cmpO (op_lt.or op_lt_str) snd_lt (me_v 3) (me_fn (L2.CallR.or call_len_seq call_len_str) snd_len rfl M.len bt_len (ma_cons (me_item (me_v 0) me_int (fun _ _ => rfl)) ma_nil)) (nomark _)) (mw_and1 (mt_cmpO op_ge snd_ge (me_fn call_abs snd_abs rfl M.abs bt_abs (ma_cons (me_v 4) ma_nil)) (me_pow me_int me_int) (nomark _)))))
  (mss_cons (ms_set (i := 5) SC.nd rfl (Or.inl rfl) (me_add (me_mul me_int (me_fn call_abs snd_abs rfl M.abs bt_abs (ma_cons (me_v 4) ma_nil))) (me_fnTy call_int1 snd_int rfl M.int bt_int (ma_cons (me_cmpO (op_lt.or op_lt_str) snd_lt (me_v 4) me_int (nomark _)) ma_nil))))
 (mss_cons (ms_put (me_div (me_v 5) (me_v 1)) (me_v 0) me_int)
 (mss_one (ms_ret (me_mod (me_v 5) (me_v 1))))))
  mss_nil)
 (mss_cons (ms_set (i := 6) SC.nd rfl (Or.inl rfl) (me_mod (me_pow (me_add (me_add (me_mod (me_v 4) me_int) (me_mul me_int (me_v 3))) me_int) me_int) me_int))
 (mss_cons (ms_set (i := 6) SC.nd rfl (Or.inl rfl) (me_mod (me_add (me_add (me_mul (me_v 6) (me_v 6)) (me_mul me_int (me_v 6))) (me_v 3)) me_int))
 (mss_one (ms_ret (me_mod (me_div (me_v 6) me_int) (me_v 1))))))))))))
theorem sc_law_signs : FnScope ["_law_some_here"] [] (defScope (top 17)) := ⟨rfl, rfl, rfl, by decide +kernel, rfl, by decide +kernel, by decide +kernel⟩
theorem m_law_signs {k : Nat} (cdv : Value) (A : Around) (outer : List Env) (s : Shared) (H : Hp) (E : XK) (hr : Room k (A.deeper (PyProof.Rows.envOfC "_law_signs" (defScope (top 17)) s.heap.objs.size f cdv))) : MSs (cxOf CX0 P w K mg base ["_law_some_here"] "_law_signs" (defScope (top 17)) f cdv A outer s H E).nox X0 (defBody (top 17)) (b_law_signs) :=
 have SC := sc_law_signs
 (mss_cons (ms_set (i := 0) SC.nd rfl (Or.inl rfl) me_str)
 (mss_one (ms_ret (me_add (me_v 0) me_str))))
theorem sc_law_some : FnScope ["_law_pen_here", "_law_rest", "_law_most", "_law_found", "_law_k", "_law_at"] ["_law_pen_here", "_law_rest", "_law_most"] (defScope (top 18)) := ⟨rfl, rfl, rfl, by decide +kernel, rfl, by decide +kernel, by decide +kernel⟩
theorem m_law_some {k : Nat} (M : Nm mg) {a_law_take : Addr} {d_law_take : FuncData} {k_law_take : Nat} {F_law_take : SF} (D_law_take : Dn P w K mg base k_law_take "_law_take" ["_law_pen_here", "_law_many"] (spOf K 2 F_law_take) a_law_take d_law_take) (h_law_take : k_law_take ≤ k) (cdv : Value) (A : Around) (outer : List Env) (s : Shared) (H : Hp) (E : XK) (hr : Room k (A.deeper (PyProof.Rows.envOfC "_law_some" (defScope (top 18)) s.heap.objs.size f cdv))) : MSs (cxOf CX0 P w K mg base ["_law_pen_here", "_law_rest", "_law_most", "_law_found", "_law_k", "_law_at"] "_law_some" (defScope (top 18)) f cdv A outer s H E).nox X0 (defBody (top 18)) (b_law_some F_law_take) :=
 have SC := sc_law_some
 (mss_cons (ms_set (i := 3) SC.nd rfl (Or.inl rfl) me_str)
 (mss_cons (ms_for PassesOwn.never rfl (mi_rng1 rfl M.range (ma_cons (me_add me_int (me_call D_law_take (hr.mono h_law_take) rfl (ma_cons (me_v 0) (ma_cons (me_v 2) ma_nil)))) ma_nil)) (mg_name (i := 4) SC.nd rfl (Or.inl rfl)) (mss_cons (ms_set (i := 5) SC.nd rfl (Or.inl rfl) (me_call D_law_take (hr.mono h_law_take) rfl (ma_cons (me_v 0) (ma_cons (me_fn (L2.CallR.or call_len_seq call_len_str) snd_len rfl M.len bt_len (ma_cons (me_v 1) ma_nil)) ma_nil))))
 (mss_cons (ms_set (i := 3) SC.nd rfl (Or.inl rfl) (me_add (me_v 3) (me_item (me_v 1) (me_v 5) (fun _ _ => rfl))))
 (mss_one (ms_set (i := 1) SC.nd rfl (Or.inl rfl) (me_add (me_slice2 (me_v 1) mo_none (mo_some (me_v 5))) (me_slice2 (me_v 1) (mo_some (me_add (me_v 5) me_int)) mo_none)))))))
 (mss_one (ms_ret (me_v 3)))))
theorem sc_law_shape : FnScope ["_law_pen_here", "_law_purse", "_law_deep_here", "_law_tongue", "_law_road", "_law_part", "_law_low", "_law_size", "_law_parts_here"] ["_law_pen_here", "_law_purse", "_law_deep_here", "_law_tongue"] (defScope (top 19)) := ⟨rfl, rfl, rfl, by decide +kernel, rfl, by decide +kernel, by decide +kernel⟩
theorem m_law_shape {k : Nat} (M : Nm mg) {a_law_shape : Addr} {d_law_shape : FuncData} {k_law_shape : Nat} {F_law_shape : SF} (D_law_shape : Dn P w K mg base k_law_shape "_law_shape" ["_law_pen_here", "_law_purse", "_law_deep_here", "_law_tongue"] (spOf K 4 F_law_shape) a_law_shape d_law_shape) (h_law_shape : k_law_shape ≤ k) {a_law_some : Addr} {d_law_some : FuncData} {k_law_some : Nat} {F_law_some : SF} (D_law_some : Dn P w K mg base k_law_some "_law_some" ["_law_pen_here", "_law_rest", "_law_most"] (spOf K 3 F_law_some) a_law_some d_law_some) (h_law_some : k_law_some ≤ k) {a_law_take : Addr} {d_law_take : FuncData} {k_law_take : Nat} {F_law_take : SF} (D_law_take : Dn P w K mg base k_law_take "_law_take" ["_law_pen_here", "_law_many"] (spOf K 2 F_law_take) a_law_take d_law_take) (h_law_take : k_law_take ≤ k) (cdv : Value) (A : Around) (outer : List Env) (s : Shared) (H : Hp) (E : XK) (hr : Room k (A.deeper (PyProof.Rows.envOfC "_law_shape" (defScope (top 19)) s.heap.objs.size f cdv))) : MSs (cxOf CX0 P w K mg base ["_law_pen_here", "_law_purse", "_law_deep_here", "_law_tongue", "_law_road", "_law_part", "_law_low", "_law_size", "_law_parts_here"] "_law_shape" (defScope (top 19)) f cdv A outer s H E).nox X0 (defBody (top 19)) (b_law_shape F_law_shape F_law_some F_law_take) :=
 have SC := sc_law_shape
 (mss_cons (ms_set (i := 4) SC.nd rfl (Or.inl rfl) (me_call D_law_take (hr.mono h_law_take) rfl (ma_cons (me_v 0) (ma_cons me_int ma_nil))))
 (mss_cons (ms_if (PW.pt (mw_and (mt_cmpO (op_eqD hr.u) snd_eqD (me_v 2) me_int (nomark _)) (mw_and1 (mt_cmpO (op_lt.or op_lt_str) snd_lt (me_v 4) me_int (nomark _)))))
  (mss_one (ms_set (i := 4) SC.nd rfl (Or.inl rfl) (me_add (me_v 4) me_int)))
  mss_nil)
 (mss_cons (ms_if (PW.pt (mw_and (mt_cmpO (op_eqD hr.u) snd_eqD (me_v 4) me_int (nomark _)) (mw_and1 (mt_cmpO (op_eqD hr.u) snd_eqD (me_call D_law_take (hr.mono h_law_take) rfl (ma_cons (me_v 0) (ma_cons me_int ma_nil))) me_int (nomark _)))))
  (mss_one (ms_ret (me_tup (ma_cons me_str (ma_cons (me_tup ma_nil) ma_nil)))))
  mss_nil)
 (mss_cons (ms_if (PW.pt (mw_or (mt_cmpO (op_eqD hr.u) snd_eqD (me_v 2) me_int (nomark _)) (mw_or (mt_cmpO (op_lt.or op_lt_str) snd_lt (me_item (me_v 1) me_int (fun _ _ => rfl)) me_int (nomark _)) (mw_or1 (mt_cmpO (op_lt.or op_lt_str) snd_lt (me_v 4) me_int (nomark _))))))
  (mss_one (ms_ret (me_tup (ma_cons me_str (ma_cons (me_call D_law_some (hr.mono h_law_some) rfl (ma_cons (me_v 0) (ma_cons (me_v 3) (ma_cons (me_fn (L2.CallR.or call_len_seq call_len_str) snd_len rfl M.len bt_len (ma_cons (me_v 3) ma_nil)) ma_nil)))) ma_nil)))))
  mss_nil)
 (mss_cons (ms_if (mt_cmpO (op_lt.or op_lt_str) snd_lt (me_v 4) me_int (nomark _))
  (mss_cons (ms_put (me_sub (me_item (me_v 1) me_int (fun _ _ => rfl)) me_int) (me_v 1) me_int)
 (mss_cons (ms_set (i := 5) SC.nd rfl (Or.inl rfl) (me_call D_law_shape (hr.mono h_law_shape) rfl (ma_cons (me_v 0) (ma_cons (me_v 1) (ma_cons (me_sub (me_v 2) me_int) (ma_cons (me_v 3) ma_nil))))))
 (mss_cons (ms_if (mt_cmpO (op_eqD hr.u) snd_eqD (me_v 4) me_int (nomark _))
  (mss_one (ms_ret (me_tup (ma_cons me_str (ma_cons (me_v 5) ma_nil)))))
  mss_nil)
 (mss_cons (ms_set (i := 6) SC.nd rfl (Or.inl rfl) (me_call D_law_take (hr.mono h_law_take) rfl (ma_cons (me_v 0) (ma_cons me_int ma_nil))))
 (mss_one (ms_ret (me_tup (ma_cons me_str (ma_cons (me_v 5) (ma_cons (me_v 6) (ma_cons (me_add (me_v 6) (me_call D_law_take (hr.mono h_law_take) rfl (ma_cons (me_v 0) (ma_cons (me_sub me_int (me_v 6)) ma_nil)))) ma_nil)))))))))))
  mss_nil)
 (mss_cons (ms_set (i := 7) SC.nd rfl (Or.inl rfl) (me_fn (call_min2 rfl) snd_min2 rfl M.min bt_min (ma_cons (me_item (me_v 1) me_int (fun _ _ => rfl)) (ma_cons (me_add me_int (me_call D_law_take (hr.mono h_law_take) rfl (ma_cons (me_v 0) (ma_cons (me_item (me_lst (ma_cons me_int (ma_cons me_int (ma_cons me_int ma_nil)))) (me_call D_law_take (hr.mono h_law_take) rfl (ma_cons (me_v 0) (ma_cons me_int ma_nil))) (fun _ _ => rfl)) ma_nil)))) ma_nil))))
 (mss_cons (ms_put (me_sub (me_item (me_v 1) me_int (fun _ _ => rfl)) (me_v 7)) (me_v 1) me_int)
 (mss_cons (ms_set (i := 8) SC.nd rfl (Or.inl rfl) (me_fnTy (L2.CallR.or call_tuple_of (call_tuple_s rfl)) snd_tuple rfl M.tuple bt_tuple (ma_cons (me_comp rfl (CSc.of (ts := ["_law_k"]) (fr := ["_law_pen_here", "_law_purse", "_law_deep_here", "_law_tongue"]) (ix := [0, 1, 2, 3]) rfl rfl rfl rfl (by intro p hp; simp only [List.mem_cons, List.not_mem_nil, or_false] at hp; rcases hp with rfl | rfl | rfl | rfl <;> rfl) rfl rfl rfl rfl) (mi_rng1 rfl M.range (ma_cons (me_v 7) ma_nil)) (fun _ _ _ _ => (pg_name (i := 0) (show (["_law_k", "_law_pen_here", "_law_purse", "_law_deep_here", "_law_tongue"] : List Str).Nodup by decide +kernel) rfl (Or.inl rfl) (.inr rfl))) tg_one (fun _ _ _ _ => (me_call D_law_shape (hr.mono h_law_shape) rfl (ma_cons (me_v 1) (ma_cons (me_v 2) (ma_cons (me_sub (me_v 3) me_int) (ma_cons (me_v 4) ma_nil))))))) ma_nil)))
 (mss_one (ms_ret (me_tup (ma_cons (me_item (me_lst (ma_cons me_str (ma_cons me_str ma_nil))) (me_fnTy call_int1 snd_int rfl M.int bt_int (ma_cons (me_cmpO op_gt snd_gt (me_v 4) me_int (nomark _)) ma_nil)) (fun _ _ => rfl)) (ma_cons (me_v 8) ma_nil)))))))))))))
theorem sc_law_inner : FnScope ["_law_shape_here"] ["_law_shape_here"] (defScope (top 20)) := ⟨rfl, rfl, rfl, by decide +kernel, rfl, by decide +kernel, by decide +kernel⟩
theorem m_law_inner {k : Nat} (cdv : Value) (A : Around) (outer : List Env) (s : Shared) (H : Hp) (E : XK) (hr : Room k (A.deeper (PyProof.Rows.envOfC "_law_inner" (defScope (top 20)) s.heap.objs.size f cdv))) : MSs (cxOf CX0 P w K mg base ["_law_shape_here"] "_law_inner" (defScope (top 20)) f cdv A outer s H E).nox X0 (defBody (top 20)) (b_law_inner) :=
 have SC := sc_law_inner
 (mss_cons (ms_if (mt_cmpO (op_eqD hr.u) snd_eqD (me_item (me_v 0) me_int (fun _ _ => rfl)) me_str (nomark _))
  (mss_one (ms_ret (me_tup ma_nil)))
  mss_nil)
 (mss_cons (ms_if (PW.pt (mw_or (mt_cmpO (op_eqD hr.u) snd_eqD (me_item (me_v 0) me_int (fun _ _ => rfl)) me_str (nomark _)) (mw_or1 (mt_cmpO (op_eqD hr.u) snd_eqD (me_item (me_v 0) me_int (fun _ _ => rfl)) me_str (nomark _)))))
  (mss_one (ms_ret (me_item (me_v 0) me_int (fun _ _ => rfl))))
  mss_nil)
 (mss_one (ms_ret (me_tup (ma_cons (me_item (me_v 0) me_int (fun _ _ => rfl)) ma_nil))))))
theorem sc_law_parts : FnScope ["_law_shape_here", "_law_found", "_law_part"] ["_law_shape_here"] (defScope (top 21)) := ⟨rfl, rfl, rfl, by decide +kernel, rfl, by decide +kernel, by decide +kernel⟩
theorem m_law_parts {k : Nat} {a_law_inner : Addr} {d_law_inner : FuncData} {k_law_inner : Nat} {F_law_inner : SF} (D_law_inner : Dn P w K mg base k_law_inner "_law_inner" ["_law_shape_here"] (spOf K 1 F_law_inner) a_law_inner d_law_inner) (h_law_inner : k_law_inner ≤ k) {a_law_parts : Addr} {d_law_parts : FuncData} {k_law_parts : Nat} {F_law_parts : SF} (D_law_parts : Dn P w K mg base k_law_parts "_law_parts" ["_law_shape_here"] (spOf K 1 F_law_parts) a_law_parts d_law_parts) (h_law_parts : k_law_parts ≤ k) (cdv : Value) (A : Around) (outer : List Env) (s : Shared) (H : Hp) (E : XK) (hr : Room k (A.deeper (PyProof.Rows.envOfC "_law_parts" (defScope (top 21)) s.heap.objs.size f cdv))) : MSs (cxOf CX0 P w K mg base ["_law_shape_here", "_law_found", "_law_part"] "_law_parts" (defScope (top 21)) f cdv A outer s H E).nox X0 (defBody (top 21)) (b_law_parts F_law_inner F_law_parts) :=
 have SC := sc_law_parts
 (mss_cons (ms_set (i := 1) SC.nd rfl (Or.inl rfl) (me_lst (ma_cons (me_v 0) ma_nil)))
 (mss_cons (ms_for PassesOwn.never rfl (mi_seq (me_call D_law_inner (hr.mono h_law_inner) rfl (ma_cons (me_v 0) ma_nil))) (mg_name (i := 2) SC.nd rfl (Or.inl rfl)) (mss_one (ms_set (i := 1) SC.nd rfl (Or.inl rfl) (me_add (me_v 1) (me_call D_law_parts (hr.mono h_law_parts) rfl (ma_cons (me_v 2) ma_nil))))))
 (mss_one (ms_ret (me_v 1)))))
theorem sc_law_put : FnScope ["_law_shape_here", "_law_at", "_law_thing", "_law_parts_here", "_law_k", "_law_size"] ["_law_shape_here", "_law_at", "_law_thing"] (defScope (top 22)) := ⟨rfl, rfl, rfl, by decide +kernel, rfl, by decide +kernel, by decide +kernel⟩
theorem m_law_put {k : Nat} (M : Nm mg) {a_law_inner : Addr} {d_law_inner : FuncData} {k_law_inner : Nat} {F_law_inner : SF} (D_law_inner : Dn P w K mg base k_law_inner "_law_inner" ["_law_shape_here"] (spOf K 1 F_law_inner) a_law_inner d_law_inner) (h_law_inner : k_law_inner ≤ k) {a_law_parts : Addr} {d_law_parts : FuncData} {k_law_parts : Nat} {F_law_parts : SF} (D_law_parts : Dn P w K mg base k_law_parts "_law_parts" ["_law_shape_here"] (spOf K 1 F_law_parts) a_law_parts d_law_parts) (h_law_parts : k_law_parts ≤ k) {a_law_put : Addr} {d_law_put : FuncData} {k_law_put : Nat} {F_law_put : SF} (D_law_put : Dn P w K mg base k_law_put "_law_put" ["_law_shape_here", "_law_at", "_law_thing"] (spOf K 3 F_law_put) a_law_put d_law_put) (h_law_put : k_law_put ≤ k) (cdv : Value) (A : Around) (outer : List Env) (s : Shared) (H : Hp) (E : XK) (hr : Room k (A.deeper (PyProof.Rows.envOfC "_law_put" (defScope (top 22)) s.heap.objs.size f cdv))) : MSs (cxOf CX0 P w K mg base ["_law_shape_here", "_law_at", "_law_thing", "_law_parts_here", "_law_k", "_law_size"] "_law_put" (defScope (top 22)) f cdv A outer s H E).nox X0 (defBody (top 22)) (b_law_put F_law_inner F_law_parts F_law_put) :=
 have SC := sc_law_put
 (mss_cons (ms_if (mt_cmpO (op_eqD hr.u) snd_eqD (me_v 1) me_int (nomark _))
  (mss_one (ms_ret (me_v 2)))
  mss_nil)
 (mss_cons (ms_set (i := 1) SC.nd rfl (Or.inl rfl) (me_sub (me_v 1) me_int))
 (mss_cons (ms_set (i := 3) SC.nd rfl (Or.inl rfl) (me_fnTy (L2.CallR.or call_list_of (call_list_s rfl)) snd_list rfl M.list bt_list (ma_cons (me_call D_law_inner (hr.mono h_law_inner) rfl (ma_cons (me_v 0) ma_nil)) ma_nil)))
 (mss_cons (ms_for PassesOwn.never rfl (mi_rng1 rfl M.range (ma_cons (me_fn (L2.CallR.or call_len_seq call_len_str) snd_len rfl M.len bt_len (ma_cons (me_v 3) ma_nil)) ma_nil)) (mg_name (i := 4) SC.nd rfl (Or.inl rfl)) (mss_cons (ms_set (i := 5) SC.nd rfl (Or.inl rfl) (me_fn (L2.CallR.or call_len_seq call_len_str) snd_len rfl M.len bt_len (ma_cons (me_call D_law_parts (hr.mono h_law_parts) rfl (ma_cons (me_item (me_v 3) (me_v 4) (fun _ _ => rfl)) ma_nil)) ma_nil)))
 (mss_cons (ms_if (mt_chain (op_le.or op_le_str) (op_lt.or op_lt_str) snd_le snd_lt me_int (me_v 1) (me_v 5))
  (mss_one (ms_put (me_call D_law_put (hr.mono h_law_put) rfl (ma_cons (me_item (me_v 3) (me_v 4) (fun _ _ => rfl)) (ma_cons (me_v 1) (ma_cons (me_v 2) ma_nil)))) (me_v 3) (me_v 4)))
  mss_nil)
 (mss_one (ms_set (i := 1) SC.nd rfl (Or.inl rfl) (me_sub (me_v 1) (me_v 5)))))))
 (mss_cons (ms_if (mt_cmpO (op_eqD hr.u) snd_eqD (me_item (me_v 0) me_int (fun _ _ => rfl)) me_str (nomark _))
  (mss_one (ms_ret (me_tup (ma_cons me_str (ma_cons (me_item (me_v 3) me_int (fun _ _ => rfl)) (ma_cons (me_item (me_v 0) me_int (fun _ _ => rfl)) (ma_cons (me_item (me_v 0) me_int (fun _ _ => rfl)) ma_nil)))))))
  mss_nil)
 (mss_cons (ms_if (mt_cmpO (op_eqD hr.u) snd_eqD (me_item (me_v 0) me_int (fun _ _ => rfl)) me_str (nomark _))
  (mss_one (ms_ret (me_tup (ma_cons me_str (ma_cons (me_item (me_v 3) me_int (fun _ _ => rfl)) ma_nil)))))
  mss_nil)
 (mss_one (ms_ret (me_tup (ma_cons (me_item (me_v 0) me_int (fun _ _ => rfl)) (ma_cons (me_fnTy (L2.CallR.or call_tuple_of (call_tuple_s rfl)) snd_tuple rfl M.tuple bt_tuple (ma_cons (me_v 3) ma_nil)) ma_nil)))))))))))
theorem sc_law_odd_ones : FnScope ["_law_pen_here", "_law_signs_here", "_law_at", "_law_twice", "_law_start", "_law_some_here"] ["_law_pen_here"] (defScope (top 23)) := ⟨rfl, rfl, rfl, by decide +kernel, rfl, by decide +kernel, by decide +kernel⟩
theorem m_law_odd_ones {k : Nat} (M : Nm mg) {a_law_signs : Addr} {d_law_signs : FuncData} {k_law_signs : Nat} {F_law_signs : SF} (D_law_signs : Dn P w K mg base k_law_signs "_law_signs" [] (spOf K 0 F_law_signs) a_law_signs d_law_signs) (h_law_signs : k_law_signs ≤ k) {a_law_some : Addr} {d_law_some : FuncData} {k_law_some : Nat} {F_law_some : SF} (D_law_some : Dn P w K mg base k_law_some "_law_some" ["_law_pen_here", "_law_rest", "_law_most"] (spOf K 3 F_law_some) a_law_some d_law_some) (h_law_some : k_law_some ≤ k) {a_law_take : Addr} {d_law_take : FuncData} {k_law_take : Nat} {F_law_take : SF} (D_law_take : Dn P w K mg base k_law_take "_law_take" ["_law_pen_here", "_law_many"] (spOf K 2 F_law_take) a_law_take d_law_take) (h_law_take : k_law_take ≤ k) (cdv : Value) (A : Around) (outer : List Env) (s : Shared) (H : Hp) (E : XK) (hr : Room k (A.deeper (PyProof.Rows.envOfC "_law_odd_ones" (defScope (top 23)) s.heap.objs.size f cdv))) : MSs (cxOf CX0 P w K mg base ["_law_pen_here", "_law_signs_here", "_law_at", "_law_twice", "_law_start", "_law_some_here"] "_law_odd_ones" (defScope (top 23)) f cdv A outer s H E).nox X0 (defBody (top 23)) (b_law_odd_ones F_law_signs F_law_some F_law_take) :=
 have SC := sc_law_odd_ones
 (mss_cons (ms_set (i := 1) SC.nd rfl (Or.inl rfl) (me_call D_law_some (hr.mono h_law_some) rfl (ma_cons (me_v 0) (ma_cons (me_call0 D_law_signs (hr.mono h_law_signs) rfl) (ma_cons me_int ma_nil)))))
 (mss_cons (ms_set (i := 2) SC.nd rfl (Or.inl rfl) (me_call D_law_take (hr.mono h_law_take) rfl (ma_cons (me_v 0) (ma_cons (me_add (me_fn (L2.CallR.or call_len_seq call_len_str) snd_len rfl M.len bt_len (ma_cons (me_v 1) ma_nil)) me_int) ma_nil))))
 (mss_cons (ms_set (i := 3) SC.nd rfl (Or.inl rfl) (me_add (me_add (me_slice2 (me_v 1) mo_none (mo_some (me_v 2))) (me_item (me_v 1) (me_call D_law_take (hr.mono h_law_take) rfl (ma_cons (me_v 0) (ma_cons (me_fn (L2.CallR.or call_len_seq call_len_str) snd_len rfl M.len bt_len (ma_cons (me_v 1) ma_nil)) ma_nil))) (fun _ _ => rfl))) (me_slice2 (me_v 1) (mo_some (me_v 2)) mo_none)))
 (mss_cons (ms_set (i := 4) SC.nd rfl (Or.inl rfl) (me_call D_law_take (hr.mono h_law_take) rfl (ma_cons (me_v 0) (ma_cons me_int ma_nil))))
 (mss_cons (ms_set (i := 5) SC.nd rfl (Or.inl rfl) (me_lst (ma_cons (me_tup (ma_cons me_str (ma_cons (me_v 3) ma_nil))) (ma_cons (me_tup (ma_cons me_str (ma_cons (me_add (me_add (me_slice2 (me_v 1) mo_none (mo_some (me_v 2))) me_str) (me_slice2 (me_v 1) (mo_some (me_v 2)) mo_none)) ma_nil))) (ma_cons (me_tup (ma_cons me_str (ma_cons (me_slice2 (me_call0 D_law_signs (hr.mono h_law_signs) rfl) (mo_some (me_v 4)) (mo_some (me_add (me_v 4) me_int))) ma_nil))) ma_nil)))))
 (mss_cons (ms_set (i := 5) SC.nd rfl (Or.inl rfl) (me_add (me_v 5) (me_lst (ma_cons (me_tup (ma_cons me_str (ma_cons me_str ma_nil))) (ma_cons (me_tup (ma_cons me_str ma_nil)) (ma_cons (me_tup (ma_cons me_str (ma_cons (me_v 1) (ma_cons (me_v 1) ma_nil)))) (ma_cons (me_tup (ma_cons me_str (ma_cons me_non ma_nil))) (ma_cons (me_tup (ma_cons me_str (ma_cons (me_lst (ma_cons (me_v 1) ma_nil)) ma_nil))) (ma_cons (me_tup (ma_cons me_str (ma_cons (me_tup (ma_cons (me_v 1) ma_nil)) ma_nil))) ma_nil)))))))))
 (mss_cons (ms_set (i := 5) SC.nd rfl (Or.inl rfl) (me_add (me_v 5) (me_lst (ma_cons (me_lst (ma_cons me_str (ma_cons (me_v 1) ma_nil))) (ma_cons (me_v 1) (ma_cons (me_tup (ma_cons me_str (ma_cons (me_v 1) ma_nil))) (ma_cons (me_tup (ma_cons me_str (ma_cons (me_v 1) ma_nil))) (ma_cons (me_tup (ma_cons (me_v 1) (ma_cons me_non ma_nil))) (ma_cons (me_tup (ma_cons me_str (ma_cons (me_v 1) ma_nil))) (ma_cons (me_tup (ma_cons me_str (ma_cons me_int ma_nil))) ma_nil))))))))))
 (mss_cons (ms_set (i := 5) SC.nd rfl (Or.inl rfl) (me_add (me_v 5) (me_lst (ma_cons (me_tup (ma_cons me_int (ma_cons (me_v 1) ma_nil))) (ma_cons (me_tup (ma_cons me_non (ma_cons (me_v 1) ma_nil))) (ma_cons (me_tup (ma_cons (me_tup (ma_cons me_str ma_nil)) (ma_cons (me_v 1) ma_nil))) (ma_cons (me_tup (ma_cons me_bl (ma_cons (me_v 1) ma_nil))) (ma_cons me_non (ma_cons me_int (ma_cons me_bl (ma_cons (me_tup ma_nil) (ma_cons me_dnew ma_nil))))))))))))
 (mss_one (ms_ret (me_add (me_v 5) (me_lst (ma_cons me_str (ma_cons (me_lst ma_nil) (ma_cons (me_neg me_int) (ma_cons (me_tup (ma_cons (me_lst (ma_cons me_str ma_nil)) (ma_cons (me_v 1) ma_nil))) (ma_cons (me_tup (ma_cons me_dnew (ma_cons (me_v 1) ma_nil))) ma_nil)))))))))))))))))
theorem sc_law_odd_parts : FnScope ["_law_pen_here", "_law_part", "_law_some_here", "_law_low"] ["_law_pen_here", "_law_part"] (defScope (top 24)) := ⟨rfl, rfl, rfl, by decide +kernel, rfl, by decide +kernel, by decide +kernel⟩
theorem m_law_odd_parts {k : Nat} {a_law_take : Addr} {d_law_take : FuncData} {k_law_take : Nat} {F_law_take : SF} (D_law_take : Dn P w K mg base k_law_take "_law_take" ["_law_pen_here", "_law_many"] (spOf K 2 F_law_take) a_law_take d_law_take) (h_law_take : k_law_take ≤ k) (cdv : Value) (A : Around) (outer : List Env) (s : Shared) (H : Hp) (E : XK) (hr : Room k (A.deeper (PyProof.Rows.envOfC "_law_odd_parts" (defScope (top 24)) s.heap.objs.size f cdv))) : MSs (cxOf CX0 P w K mg base ["_law_pen_here", "_law_part", "_law_some_here", "_law_low"] "_law_odd_parts" (defScope (top 24)) f cdv A outer s H E).nox X0 (defBody (top 24)) (b_law_odd_parts F_law_take) :=
 have SC := sc_law_odd_parts
 (mss_cons (ms_set (i := 2) SC.nd rfl (Or.inl rfl) (me_lst (ma_cons (me_tup (ma_cons me_str (ma_cons (me_lst (ma_cons (me_v 1) ma_nil)) ma_nil))) (ma_cons (me_tup (ma_cons me_str (ma_cons (me_mul2 (me_tup (ma_cons (me_v 1) ma_nil)) me_int) ma_nil))) (ma_cons (me_tup (ma_cons me_str ma_nil)) (ma_cons (me_tup (ma_cons me_str (ma_cons (me_v 1) ma_nil))) (ma_cons (me_tup (ma_cons me_str (ma_cons (me_tup ma_nil) (ma_cons (me_tup ma_nil) ma_nil)))) (ma_cons (me_tup (ma_cons me_str (ma_cons me_non ma_nil))) ma_nil))))))))
 (mss_cons (ms_expr (me_ml PySem.F.slot_list_append PySem.F.type_list_append mt_append snd_app (me_v 2) (ma_cons (me_tup (ma_cons me_str (ma_cons (me_tup ma_nil) ma_nil))) ma_nil)))
 (mss_cons (ms_set (i := 2) SC.nd rfl (Or.inl rfl) (me_add (me_v 2) (me_lst (ma_cons (me_tup (ma_cons me_str (ma_cons (me_tup ma_nil) ma_nil))) (ma_cons (me_tup (ma_cons me_str (ma_cons (me_lst (ma_cons (me_v 1) ma_nil)) ma_nil))) (ma_cons (me_tup (ma_cons me_str (ma_cons (me_mul2 (me_tup (ma_cons (me_v 1) ma_nil)) me_int) ma_nil))) (ma_cons (me_tup (ma_cons me_str (ma_cons (me_v 1) ma_nil))) (ma_cons (me_tup (ma_cons me_str ma_nil)) ma_nil))))))))
 (mss_cons (ms_set (i := 2) SC.nd rfl (Or.inl rfl) (me_add (me_v 2) (me_lst (ma_cons (me_tup (ma_cons me_str (ma_cons (me_tup (ma_cons (me_v 1) ma_nil)) (ma_cons me_int ma_nil)))) (ma_cons (me_tup (ma_cons me_str ma_nil)) (ma_cons (me_tup (ma_cons me_str (ma_cons (me_v 1) (ma_cons (me_v 1) ma_nil)))) (ma_cons (me_tup (ma_cons me_str (ma_cons (me_tup (ma_cons (me_v 1) ma_nil)) ma_nil))) (ma_cons (me_tup (ma_cons me_str (ma_cons (me_lst (ma_cons (me_v 1) ma_nil)) ma_nil))) ma_nil))))))))
 (mss_cons (ms_set (i := 2) SC.nd rfl (Or.inl rfl) (me_add (me_v 2) (me_lst (ma_cons (me_tup (ma_cons me_str (ma_cons me_non ma_nil))) (ma_cons (me_tup (ma_cons me_str (ma_cons (me_v 1) ma_nil))) (ma_cons (me_tup (ma_cons me_str (ma_cons (me_v 1) ma_nil))) (ma_cons (me_tup (ma_cons me_str (ma_cons (me_v 1) (ma_cons me_int ma_nil)))) (ma_cons (me_tup (ma_cons me_str (ma_cons (me_v 1) (ma_cons me_int (ma_cons me_int (ma_cons me_int ma_nil)))))) ma_nil))))))))
 (mss_cons (ms_set (i := 3) SC.nd rfl (Or.inl rfl) (me_add me_int (me_call D_law_take (hr.mono h_law_take) rfl (ma_cons (me_v 0) (ma_cons me_int ma_nil)))))
 (mss_cons (ms_set (i := 2) SC.nd rfl (Or.inl rfl) (me_add (me_v 2) (me_lst (ma_cons (me_tup (ma_cons me_str (ma_cons (me_v 1) (ma_cons (me_v 3) (ma_cons (me_sub (me_v 3) me_int) ma_nil))))) (ma_cons (me_tup (ma_cons me_str (ma_cons (me_v 1) (ma_cons (me_neg (me_v 3)) (ma_cons (me_v 3) ma_nil))))) (ma_cons (me_tup (ma_cons me_str (ma_cons (me_v 1) (ma_cons (me_v 3) (ma_cons me_int ma_nil))))) ma_nil))))))
 (mss_cons (ms_set (i := 2) SC.nd rfl (Or.inl rfl) (me_add (me_v 2) (me_lst (ma_cons (me_tup (ma_cons me_str (ma_cons (me_v 1) (ma_cons me_int (ma_cons (me_add me_int (me_v 3)) ma_nil))))) (ma_cons (me_tup (ma_cons me_str (ma_cons (me_v 1) (ma_cons me_bl (ma_cons (me_v 3) ma_nil))))) (ma_cons (me_tup (ma_cons me_str (ma_cons (me_v 1) (ma_cons me_int (ma_cons me_bl ma_nil))))) ma_nil))))))
 (mss_cons (ms_set (i := 2) SC.nd rfl (Or.inl rfl) (me_add (me_v 2) (me_lst (ma_cons (me_tup (ma_cons me_str (ma_cons (me_v 1) (ma_cons me_non (ma_cons (me_v 3) ma_nil))))) (ma_cons (me_tup (ma_cons me_str (ma_cons (me_v 1) (ma_cons me_int (ma_cons me_str ma_nil))))) (ma_cons (me_tup (ma_cons me_str (ma_cons (me_v 1) (ma_cons (me_tup (ma_cons me_int ma_nil)) (ma_cons (me_v 3) ma_nil))))) ma_nil))))))
 (mss_one (ms_ret (me_add (me_v 2) (me_lst (ma_cons (me_lst (ma_cons me_str (ma_cons (me_v 1) (ma_cons me_int (ma_cons me_int ma_nil))))) (ma_cons (me_tup (ma_cons me_str (ma_cons me_int (ma_cons me_int (ma_cons (me_v 1) ma_nil))))) (ma_cons (me_tup (ma_cons me_str (ma_cons (me_tup (ma_cons (me_v 1) ma_nil)) (ma_cons me_int (ma_cons me_int ma_nil))))) (ma_cons (me_tup (ma_cons me_str (ma_cons (me_tup (ma_cons me_str ma_nil)) ma_nil))) ma_nil)))))))))))))))))
theorem sc_law_deep : FnScope ["_law_pen_here", "_law_part", "_law_deep_here", "_law_k", "_law_few", "_law_at", "_law_some_here", "_law_road"] ["_law_pen_here", "_law_part", "_law_deep_here"] (defScope (top 25)) := ⟨rfl, rfl, rfl, by decide +kernel, rfl, by decide +kernel, by decide +kernel⟩
theorem m_law_deep {k : Nat} (M : Nm mg) {a_law_take : Addr} {d_law_take : FuncData} {k_law_take : Nat} {F_law_take : SF} (D_law_take : Dn P w K mg base k_law_take "_law_take" ["_law_pen_here", "_law_many"] (spOf K 2 F_law_take) a_law_take d_law_take) (h_law_take : k_law_take ≤ k) (cdv : Value) (A : Around) (outer : List Env) (s : Shared) (H : Hp) (E : XK) (hr : Room k (A.deeper (PyProof.Rows.envOfC "_law_deep" (defScope (top 25)) s.heap.objs.size f cdv))) : MSs (cxOf CX0 P w K mg base ["_law_pen_here", "_law_part", "_law_deep_here", "_law_k", "_law_few", "_law_at", "_law_some_here", "_law_road"] "_law_deep" (defScope (top 25)) f cdv A outer s H E).nox X0 (defBody (top 25)) (b_law_deep F_law_take) :=
 have SC := sc_law_deep
 (mss_cons (ms_for PassesOwn.never rfl (mi_rng1 rfl M.range (ma_cons (me_v 2) ma_nil)) (mg_name (i := 3) SC.nd rfl (Or.inl rfl)) (mss_cons (ms_set (i := 4) SC.nd rfl (Or.inl rfl) (me_mul (me_lst (ma_cons (me_tup (ma_cons me_str (ma_cons me_str ma_nil))) ma_nil)) (me_call D_law_take (hr.mono h_law_take) rfl (ma_cons (me_v 0) (ma_cons me_int ma_nil)))))
 (mss_cons (ms_set (i := 5) SC.nd rfl (Or.inl rfl) (me_call D_law_take (hr.mono h_law_take) rfl (ma_cons (me_v 0) (ma_cons (me_add (me_fn (L2.CallR.or call_len_seq call_len_str) snd_len rfl M.len bt_len (ma_cons (me_v 4) ma_nil)) me_int) ma_nil))))
 (mss_cons (ms_set (i := 6) SC.nd rfl (Or.inl rfl) (me_fnTy (L2.CallR.or call_tuple_of (call_tuple_s rfl)) snd_tuple rfl M.tuple bt_tuple (ma_cons (me_add (me_add (me_slice2 (me_v 4) mo_none (mo_some (me_v 5))) (me_lst (ma_cons (me_v 1) ma_nil))) (me_slice2 (me_v 4) (mo_some (me_v 5)) mo_none)) ma_nil)))
 (mss_cons (ms_set (i := 7) SC.nd rfl (Or.inl rfl) (me_call D_law_take (hr.mono h_law_take) rfl (ma_cons (me_v 0) (ma_cons me_int ma_nil))))
 (mss_one (ms_set (i := 1) SC.nd rfl (Or.inl rfl) (me_item (me_lst (ma_cons (me_tup (ma_cons me_str (ma_cons (me_v 1) ma_nil))) (ma_cons (me_tup (ma_cons me_str (ma_cons (me_v 1) (ma_cons me_int (ma_cons (me_v 7) ma_nil))))) (ma_cons (me_tup (ma_cons me_str (ma_cons (me_v 6) ma_nil))) (ma_cons (me_tup (ma_cons me_str (ma_cons (me_v 6) ma_nil))) ma_nil))))) (me_v 7) (fun _ _ => rfl)))))))))
 (mss_one (ms_ret (me_v 1))))
theorem sc_law_counted : FnScope ["_law_pen_here", "_law_one", "_law_size", "_law_found", "_law_road"] ["_law_pen_here", "_law_one", "_law_size"] (defScope (top 26)) := ⟨rfl, rfl, rfl, by decide +kernel, rfl, by decide +kernel, by decide +kernel⟩
theorem m_law_counted {k : Nat} (M : Nm mg) {a_law_take : Addr} {d_law_take : FuncData} {k_law_take : Nat} {F_law_take : SF} (D_law_take : Dn P w K mg base k_law_take "_law_take" ["_law_pen_here", "_law_many"] (spOf K 2 F_law_take) a_law_take d_law_take) (h_law_take : k_law_take ≤ k) (cdv : Value) (A : Around) (outer : List Env) (s : Shared) (H : Hp) (E : XK) (hr : Room k (A.deeper (PyProof.Rows.envOfC "_law_counted" (defScope (top 26)) s.heap.objs.size f cdv))) : MSs (cxOf CX0 P w K mg base ["_law_pen_here", "_law_one", "_law_size", "_law_found", "_law_road"] "_law_counted" (defScope (top 26)) f cdv A outer s H E).nox X0 (defBody (top 26)) (b_law_counted F_law_take) :=
 have SC := sc_law_counted
 (mss_cons (ms_set (i := 3) SC.nd rfl (Or.inl rfl) (me_lst ma_nil))
 (mss_cons (ms_while 100000 PassesOwn.never (mt_cmpO op_gt snd_gt (me_v 2) me_int (nomark _)) (mss_cons (ms_set (i := 4) SC.nd rfl (Or.inl rfl) (me_call D_law_take (hr.mono h_law_take) rfl (ma_cons (me_v 0) (ma_cons me_int ma_nil))))
 (mss_one (ms_if (PW.pt (mw_or (mt_cmpO (op_lt.or op_lt_str) snd_lt (me_v 2) me_int (nomark _)) (mw_or1 (mt_cmpO (op_lt.or op_lt_str) snd_lt (me_v 4) me_int (nomark _)))))
  (mss_cons (ms_expr (me_ml PySem.F.slot_list_append PySem.F.type_list_append mt_append snd_app (me_v 3) (ma_cons (me_v 1) ma_nil)))
 (mss_one (ms_set (i := 2) SC.nd rfl (Or.inl rfl) (me_sub (me_v 2) me_int))))
  (mss_cons (ms_expr (me_ml PySem.F.slot_list_append PySem.F.type_list_append mt_append snd_app (me_v 3) (ma_cons (me_item (me_lst (ma_cons (me_tup (ma_cons me_str (ma_cons (me_v 1) ma_nil))) (ma_cons (me_tup (ma_cons me_str (ma_cons (me_v 1) (ma_cons me_int (ma_cons me_int ma_nil))))) ma_nil))) (me_sub (me_v 4) me_int) (fun _ _ => rfl)) ma_nil)))
 (mss_one (ms_set (i := 2) SC.nd rfl (Or.inl rfl) (me_sub (me_v 2) me_int))))))))
 (mss_one (ms_ret (me_fnTy (L2.CallR.or call_tuple_of (call_tuple_s rfl)) snd_tuple rfl M.tuple bt_tuple (ma_cons (me_v 3) ma_nil))))))
theorem sc_law_wide : FnScope ["_law_pen_here", "_law_one", "_law_size", "_law_words", "_law_some_here", "_law_left", "_law_k", "_law_here", "_law_at"] ["_law_pen_here", "_law_one", "_law_size"] (defScope (top 27)) := ⟨rfl, rfl, rfl, by decide +kernel, rfl, by decide +kernel, by decide +kernel⟩
theorem m_law_wide {k : Nat} (M : Nm mg) {a_law_counted : Addr} {d_law_counted : FuncData} {k_law_counted : Nat} {F_law_counted : SF} (D_law_counted : Dn P w K mg base k_law_counted "_law_counted" ["_law_pen_here", "_law_one", "_law_size"] (spOf K 3 F_law_counted) a_law_counted d_law_counted) (h_law_counted : k_law_counted ≤ k) {a_law_take : Addr} {d_law_take : FuncData} {k_law_take : Nat} {F_law_take : SF} (D_law_take : Dn P w K mg base k_law_take "_law_take" ["_law_pen_here", "_law_many"] (spOf K 2 F_law_take) a_law_take d_law_take) (h_law_take : k_law_take ≤ k) (cdv : Value) (A : Around) (outer : List Env) (s : Shared) (H : Hp) (E : XK) (hr : Room k (A.deeper (PyProof.Rows.envOfC "_law_wide" (defScope (top 27)) s.heap.objs.size f cdv))) : MSs (cxOf CX0 P w K mg base ["_law_pen_here", "_law_one", "_law_size", "_law_words", "_law_some_here", "_law_left", "_law_k", "_law_here", "_law_at"] "_law_wide" (defScope (top 27)) f cdv A outer s H E).nox X0 (defBody (top 27)) (b_law_wide F_law_counted F_law_take) :=
 have SC := sc_law_wide
 (mss_cons (ms_set (i := 3) SC.nd rfl (Or.inl rfl) (me_lst (ma_cons me_str (ma_cons me_str ma_nil))))
 (mss_cons (ms_set (i := 4) SC.nd rfl (Or.inl rfl) (me_lst ma_nil))
 (mss_cons (ms_set (i := 5) SC.nd rfl (Or.inl rfl) (me_sub (me_v 2) me_int))
 (mss_cons (ms_for PassesOwn.never rfl (mi_rng1 rfl M.range (ma_cons me_int ma_nil)) (mg_name (i := 6) SC.nd rfl (Or.inl rfl)) (mss_cons (ms_set (i := 7) SC.nd rfl (Or.inl rfl) (me_fn (call_min2 rfl) snd_min2 rfl M.min bt_min (ma_cons me_int (ma_cons (me_sub (me_v 5) (me_mul me_int (me_sub me_int (me_v 6)))) ma_nil))))
 (mss_cons (ms_expr (me_ml PySem.F.slot_list_append PySem.F.type_list_append mt_append snd_app (me_v 4) (ma_cons (me_tup (ma_cons (me_item (me_v 3) (me_call D_law_take (hr.mono h_law_take) rfl (ma_cons (me_v 0) (ma_cons me_int ma_nil))) (fun _ _ => rfl)) (ma_cons (me_call D_law_counted (hr.mono h_law_counted) rfl (ma_cons (me_v 0) (ma_cons (me_v 1) (ma_cons (me_sub (me_v 7) me_int) ma_nil)))) ma_nil))) ma_nil)))
 (mss_one (ms_set (i := 5) SC.nd rfl (Or.inl rfl) (me_sub (me_v 5) (me_v 7)))))))
 (mss_cons (ms_set (i := 8) SC.nd rfl (Or.inl rfl) (me_call D_law_take (hr.mono h_law_take) rfl (ma_cons (me_v 0) (ma_cons me_int ma_nil))))
 (mss_one (ms_ret (me_tup (ma_cons (me_item (me_v 3) (me_call D_law_take (hr.mono h_law_take) rfl (ma_cons (me_v 0) (ma_cons me_int ma_nil))) (fun _ _ => rfl)) (ma_cons (me_fnTy (L2.CallR.or call_tuple_of (call_tuple_s rfl)) snd_tuple rfl M.tuple bt_tuple (ma_cons (me_add (me_slice2 (me_v 4) (mo_some (me_v 8)) mo_none) (me_slice2 (me_v 4) mo_none (mo_some (me_v 8)))) ma_nil)) ma_nil))))))))))
theorem sc_law : FnScope ["_law_script", "_law_pen_here", "_law_turn", "_law_kind", "_law_shape_here", "_law_part", "_law_things", "_law_at", "_law_bad", "_law_one", "_law_size"] ["_law_script"] (defScope (top 28)) := ⟨rfl, rfl, rfl, by decide +kernel, rfl, by decide +kernel, by decide +kernel⟩
theorem m_law {k : Nat} (M : Nm mg) {a_law_deep : Addr} {d_law_deep : FuncData} {k_law_deep : Nat} {F_law_deep : SF} (D_law_deep : Dn P w K mg base k_law_deep "_law_deep" ["_law_pen_here", "_law_part", "_law_deep_here"] (spOf K 3 F_law_deep) a_law_deep d_law_deep) (h_law_deep : k_law_deep ≤ k) {a_law_odd_ones : Addr} {d_law_odd_ones : FuncData} {k_law_odd_ones : Nat} {F_law_odd_ones : SF} (D_law_odd_ones : Dn P w K mg base k_law_odd_ones "_law_odd_ones" ["_law_pen_here"] (spOf K 1 F_law_odd_ones) a_law_odd_ones d_law_odd_ones) (h_law_odd_ones : k_law_odd_ones ≤ k) {a_law_odd_parts : Addr} {d_law_odd_parts : FuncData} {k_law_odd_parts : Nat} {F_law_odd_parts : SF} (D_law_odd_parts : Dn P w K mg base k_law_odd_parts "_law_odd_parts" ["_law_pen_here", "_law_part"] (spOf K 2 F_law_odd_parts) a_law_odd_parts d_law_odd_parts) (h_law_odd_parts : k_law_odd_parts ≤ k) {a_law_parts : Addr} {d_law_parts : FuncData} {k_law_parts : Nat} {F_law_parts : SF} (D_law_parts : Dn P w K mg base k_law_parts "_law_parts" ["_law_shape_here"] (spOf K 1 F_law_parts) a_law_parts d_law_parts) (h_law_parts : k_law_parts ≤ k) {a_law_pen : Addr} {d_law_pen : FuncData} {k_law_pen : Nat} {F_law_pen : SF} (D_law_pen : Dn P w K mg base k_law_pen "_law_pen" ["_law_script"] (spOf K 1 F_law_pen) a_law_pen d_law_pen) (h_law_pen : k_law_pen ≤ k) {a_law_put : Addr} {d_law_put : FuncData} {k_law_put : Nat} {F_law_put : SF} (D_law_put : Dn P w K mg base k_law_put "_law_put" ["_law_shape_here", "_law_at", "_law_thing"] (spOf K 3 F_law_put) a_law_put d_law_put) (h_law_put : k_law_put ≤ k) {a_law_shape : Addr} {d_law_shape : FuncData} {k_law_shape : Nat} {F_law_shape : SF} (D_law_shape : Dn P w K mg base k_law_shape "_law_shape" ["_law_pen_here", "_law_purse", "_law_deep_here", "_law_tongue"] (spOf K 4 F_law_shape) a_law_shape d_law_shape) (h_law_shape : k_law_shape ≤ k) {a_law_signs : Addr} {d_law_signs : FuncData} {k_law_signs : Nat} {F_law_signs : SF} (D_law_signs : Dn P w K mg base k_law_signs "_law_signs" [] (spOf K 0 F_law_signs) a_law_signs d_law_signs) (h_law_signs : k_law_signs ≤ k) {a_law_some : Addr} {d_law_some : FuncData} {k_law_some : Nat} {F_law_some : SF} (D_law_some : Dn P w K mg base k_law_some "_law_some" ["_law_pen_here", "_law_rest", "_law_most"] (spOf K 3 F_law_some) a_law_some d_law_some) (h_law_some : k_law_some ≤ k) {a_law_take : Addr} {d_law_take : FuncData} {k_law_take : Nat} {F_law_take : SF} (D_law_take : Dn P w K mg base k_law_take "_law_take" ["_law_pen_here", "_law_many"] (spOf K 2 F_law_take) a_law_take d_law_take) (h_law_take : k_law_take ≤ k) {a_law_wide : Addr} {d_law_wide : FuncData} {k_law_wide : Nat} {F_law_wide : SF} (D_law_wide : Dn P w K mg base k_law_wide "_law_wide" ["_law_pen_here", "_law_one", "_law_size"] (spOf K 3 F_law_wide) a_law_wide d_law_wide) (h_law_wide : k_law_wide ≤ k) {a_is_shape : Addr} {d_is_shape : FuncData} {k_is_shape : Nat} {F_is_shape : SF} (D_is_shape : Dn P w K mg base k_is_shape "is_shape" ["thing"] (spOf K 1 F_is_shape) a_is_shape d_is_shape) (h_is_shape : k_is_shape ≤ k) (cdv : Value) (A : Around) (outer : List Env) (s : Shared) (H : Hp) (E : XK) (hr : Room k (A.deeper (PyProof.Rows.envOfC "law" (defScope (top 28)) s.heap.objs.size f cdv))) : MSs (cxOf CX0 P w K mg base ["_law_script", "_law_pen_here", "_law_turn", "_law_kind", "_law_shape_here", "_law_part", "_law_things", "_law_at", "_law_bad", "_law_one", "_law_size"] "law" (defScope (top 28)) f cdv A outer s H E).nox X0 (defBody (top 28)) (b_law F_law_deep F_law_odd_ones F_law_odd_parts F_law_parts F_law_pen F_law_put F_law_shape F_law_signs F_law_some F_law_take F_law_wide F_is_shape) :=
 have SC := sc_law
 (mss_cons (ms_set (i := 1) SC.nd rfl (Or.inl rfl) (me_call D_law_pen (hr.mono h_law_pen) rfl (ma_cons (me_v 0) ma_nil)))
 (mss_cons (ms_for PassesOwn.never rfl (mi_rng1 rfl M.range (ma_cons me_int ma_nil)) (mg_name (i := 2) SC.nd rfl (Or.inl rfl)) (mss_cons (ms_set (i := 3) SC.nd rfl (Or.inl rfl) (me_call D_law_take (hr.mono h_law_take) rfl (ma_cons (me_v 1) (ma_cons me_int ma_nil))))
 (mss_cons (ms_set (i := 4) SC.nd rfl (Or.inl rfl) (me_call D_law_shape (hr.mono h_law_shape) rfl (ma_cons (me_v 1) (ma_cons (me_lst (ma_cons me_int ma_nil)) (ma_cons me_int (ma_cons (me_call D_law_some (hr.mono h_law_some) rfl (ma_cons (me_v 1) (ma_cons (me_call0 D_law_signs (hr.mono h_law_signs) rfl) (ma_cons me_int ma_nil)))) ma_nil))))))
 (mss_cons (ms_set (i := 5) SC.nd rfl (Or.inl rfl) (me_item (me_call D_law_parts (hr.mono h_law_parts) rfl (ma_cons (me_v 4) ma_nil)) (me_neg me_int) (fun _ _ => rfl)))
 (mss_cons (ms_set (i := 6) SC.nd rfl (Or.inl rfl) (me_item (me_lst (ma_cons (me_call D_law_odd_ones (hr.mono h_law_odd_ones) rfl (ma_cons (me_v 1) ma_nil)) (ma_cons (me_call D_law_odd_parts (hr.mono h_law_odd_parts) rfl (ma_cons (me_v 1) (ma_cons (me_v 5) ma_nil))) ma_nil))) (me_v 3) (fun _ _ => rfl)))
 (mss_cons (ms_set (i := 7) SC.nd rfl (Or.inl rfl) (me_call D_law_take (hr.mono h_law_take) rfl (ma_cons (me_v 1) (ma_cons (me_fn (L2.CallR.or call_len_seq call_len_str) snd_len rfl M.len bt_len (ma_cons (me_call D_law_parts (hr.mono h_law_parts) rfl (ma_cons (me_v 4) ma_nil)) ma_nil)) ma_nil))))
 (mss_cons (ms_set (i := 8) SC.nd rfl (Or.inl rfl) (me_call D_law_put (hr.mono h_law_put) rfl (ma_cons (me_v 4) (ma_cons (me_v 7) (ma_cons (me_item (me_v 6) (me_call D_law_take (hr.mono h_law_take) rfl (ma_cons (me_v 1) (ma_cons (me_fn (L2.CallR.or call_len_seq call_len_str) snd_len rfl M.len bt_len (ma_cons (me_v 6) ma_nil)) ma_nil))) (fun _ _ => rfl)) ma_nil)))))
 (mss_one (ms_if (PW.pt (mw_or (mt_cmpO (op_notN.or op_isnot_bl) snd_isNot (me_call D_is_shape (hr.mono h_is_shape) rfl (ma_cons (me_v 4) ma_nil)) me_bl (nomark _)) (mw_or (mt_cmpO (op_notN.or op_isnot_bl) snd_isNot (me_call D_is_shape (hr.mono h_is_shape) rfl (ma_cons (me_v 8) ma_nil)) me_bl (nomark _)) (mw_or1 (mt_cmpO (op_notN.or op_isnot_bl) snd_isNot (me_call D_is_shape (hr.mono h_is_shape) rfl (ma_cons (me_v 4) ma_nil)) me_bl (nomark _))))))
  (mss_one (ms_ret me_bl))
  mss_nil)))))))))
 (mss_cons (ms_set (i := 9) SC.nd rfl (Or.inl rfl) (me_tup (ma_cons me_str (ma_cons (me_call D_law_some (hr.mono h_law_some) rfl (ma_cons (me_v 1) (ma_cons (me_call0 D_law_signs (hr.mono h_law_signs) rfl) (ma_cons me_int ma_nil)))) ma_nil))))
 (mss_cons (ms_if (PW.pt (mw_or (mt_cmpO (op_notN.or op_isnot_bl) snd_isNot (me_call D_is_shape (hr.mono h_is_shape) rfl (ma_cons (me_call D_law_deep (hr.mono h_law_deep) rfl (ma_cons (me_v 1) (ma_cons (me_v 9) (ma_cons me_int ma_nil)))) ma_nil)) me_bl (nomark _)) (mw_or1 (mt_cmpO (op_notN.or op_isnot_bl) snd_isNot (me_call D_is_shape (hr.mono h_is_shape) rfl (ma_cons (me_call D_law_deep (hr.mono h_law_deep) rfl (ma_cons (me_v 1) (ma_cons (me_v 9) (ma_cons me_int ma_nil)))) ma_nil)) me_bl (nomark _)))))
  (mss_one (ms_ret me_bl))
  mss_nil)
 (mss_cons (ms_if (PW.pt (mw_or (mt_cmpO (op_notN.or op_isnot_bl) snd_isNot (me_call D_is_shape (hr.mono h_is_shape) rfl (ma_cons (me_call D_law_deep (hr.mono h_law_deep) rfl (ma_cons (me_v 1) (ma_cons (me_tup (ma_cons me_str (ma_cons (me_tup ma_nil) ma_nil))) (ma_cons me_int ma_nil)))) ma_nil)) me_bl (nomark _)) (mw_or1 (mt_cmpO (op_notN.or op_isnot_bl) snd_isNot (me_call D_is_shape (hr.mono h_is_shape) rfl (ma_cons (me_call D_law_deep (hr.mono h_law_deep) rfl (ma_cons (me_v 1) (ma_cons (me_tup (ma_cons me_str (ma_cons (me_tup ma_nil) ma_nil))) (ma_cons me_int ma_nil)))) ma_nil)) me_bl (nomark _)))))
  (mss_one (ms_ret me_bl))
  mss_nil)
 (mss_cons (ms_set (i := 10) SC.nd rfl (Or.inl rfl) (me_add me_int (me_call D_law_take (hr.mono h_law_take) rfl (ma_cons (me_v 1) (ma_cons me_int ma_nil)))))
 (mss_cons (ms_if (PW.pt (mw_or (mt_cmpO (op_notN.or op_isnot_bl) snd_isNot (me_call D_is_shape (hr.mono h_is_shape) rfl (ma_cons (me_call D_law_wide (hr.mono h_law_wide) rfl (ma_cons (me_v 1) (ma_cons (me_v 9) (ma_cons (me_v 10) ma_nil)))) ma_nil)) me_bl (nomark _)) (mw_or1 (mt_cmpO (op_notN.or op_isnot_bl) snd_isNot (me_call D_is_shape (hr.mono h_is_shape) rfl (ma_cons (me_call D_law_wide (hr.mono h_law_wide) rfl (ma_cons (me_v 1) (ma_cons (me_v 9) (ma_cons me_int ma_nil)))) ma_nil)) me_bl (nomark _)))))
  (mss_one (ms_ret me_bl))
  mss_nil)
 (mss_one (ms_ret (me_and (me_cmpO (op_isN.or op_is_bl) snd_is (me_call D_is_shape (hr.mono h_is_shape) rfl (ma_cons (me_call D_law_wide (hr.mono h_law_wide) rfl (ma_cons (me_v 1) (ma_cons (me_v 9) (ma_cons me_int ma_nil)))) ma_nil)) me_bl (nomark _)) (me_one (me_cmpO (op_isN.or op_is_bl) snd_is (me_call D_is_shape (hr.mono h_is_shape) rfl (ma_cons (me_v 9) ma_nil)) me_bl (nomark _)))))))))))))
end
end K04
set_option Elab.async false
set_option linter.all false
set_option maxRecDepth 100000
set_option maxHeartbeats 4000000
namespace MI
open PySem PySem.Spec L2
section
variable {τ τ1 τ2 : Sd} {h h1 h2 h3 h4 : Hd} {d d1 d2 d3 x y z : D} {ds : List D} {r : R D} {q : Fl} {f f' f1 f2 f3 : SE} {g : D → D → Hd → R D} {g1 : D → Hd → R D} {ga : List D → Hd → R D} {k : SA} {c c' : ST} {b b' : Bool} {s s' : SS} {i n : Nat} {rb : R Bool}
theorem e_v (e : τ[i]? = some (some d)) : sV i τ h = .ok d h := by rw [sV, e]
theorem e_c : sC d τ h = .ok d h := rfl
theorem e_2 (e1 : f1 τ h = .ok x h1) (e2 : f2 τ h1 = .ok y h2) (e3 : g x y h2 = r) : s2 g f1 f2 τ h = r := by rw [s2, e1]; show (f2 τ h1).bind _ = r; rw [e2]; exact e3
theorem e_1 (e1 : f1 τ h = .ok x h1) (e3 : g1 x h1 = r) : s1 g1 f1 τ h = r := by rw [s1, e1]; exact e3
theorem e_a (e1 : k τ h = .ok ds h1) (e3 : ga ds h1 = r) : sA ga k τ h = r := by rw [sA, e1]; exact e3
theorem e_nil : sNil τ h = .ok [] h := rfl
theorem e_cons (e1 : f τ h = .ok x h1) (e2 : k τ h1 = .ok ds h2) : sCons f k τ h = .ok (x :: ds) h2 := by rw [sCons, e1]; show (k τ h1).bind _ = _; rw [e2]; rfl
theorem e_call {F : SF} (e : ds.length = n) (e2 : F ds h = r) : sN n F ds h = r := by rw [sN, if_pos e]; exact e2
theorem e_T (e1 : f τ h = .ok (.bl b) h1) : sT f τ h = .ok b h1 := by rw [sT, e1]; rfl
theorem e_tru (e1 : f τ h = .ok x h1) (e2 : tru x h1 = rb) : sTru f τ h = rb := by rw [sTru, e1]; exact e2
theorem e_not (e1 : c τ h = .ok b h1) : sNot c τ h = .ok (!b) h1 := by rw [sNot, e1]; rfl
theorem e_andT (e1 : c τ h = .ok true h1) (e2 : c' τ h1 = rb) : sAnd c c' τ h = rb := by rw [sAnd, e1]; exact e2
theorem e_andF (e1 : c τ h = .ok false h1) : sAnd c c' τ h = .ok false h1 := by rw [sAnd, e1]; rfl
theorem e_orT (e1 : c τ h = .ok true h1) : sOr c c' τ h = .ok true h1 := by rw [sOr, e1]; rfl
theorem e_orF (e1 : c τ h = .ok false h1) (e2 : c' τ h1 = rb) : sOr c c' τ h = rb := by rw [sOr, e1]; exact e2
theorem e_andVT (e1 : f τ h = .ok (.bl true) h1) (e2 : f' τ h1 = r) : sAndV f f' τ h = r := by rw [sAndV, e1]; exact e2
theorem e_andVF (e1 : f τ h = .ok (.bl false) h1) : sAndV f f' τ h = .ok (.bl false) h1 := by rw [sAndV, e1]; rfl
theorem e_orVT (e1 : f τ h = .ok (.bl true) h1) : sOrV f f' τ h = .ok (.bl true) h1 := by rw [sOrV, e1]; rfl
theorem e_orVF (e1 : f τ h = .ok (.bl false) h1) (e2 : f' τ h1 = r) : sOrV f f' τ h = r := by rw [sOrV, e1]; exact e2
theorem e_notV (e1 : f τ h = .ok (.bl b) h1) : sNotV f τ h = .ok (.bl (!b)) h1 := by rw [sNotV, e1]; rfl
theorem e_ifT (e1 : c τ h = .ok true h1) (e2 : f τ h1 = r) : sIfE c f f' τ h = r := by rw [sIfE, e1]; exact e2
theorem e_ifF (e1 : c τ h = .ok false h1) (e2 : f' τ h1 = r) : sIfE c f f' τ h = r := by rw [sIfE, e1]; exact e2
theorem e_oN : oN τ h = .ok none h := rfl
theorem e_oS {j : Int} (e : f τ h = .ok (.int j) h1) : oS f τ h = .ok (some j) h1 := by rw [oS, e]; rfl
theorem e_sl {l u : SO} {lo hi : Option Int} (e1 : f τ h = .ok x h1) (e2 : l τ h1 = .ok lo h2) (e3 : u τ h2 = .ok hi h3) (e4 : gSl2 x lo hi h3 = r) : sSl2 f l u τ h = r := by
  rw [sSl2, e1]; show (l τ h1).bind _ = r; rw [e2]; show (u τ h2).bind _ = r; rw [e3]; exact e4
theorem t_seq (e : s τ h = .nx τ1 h1) (e2 : s' τ1 h1 = q) : sSeq s s' τ h = q := by rw [sSeq, e]; exact e2
theorem t_seqR (e : s τ h = .rt d h1) : sSeq s s' τ h = .rt d h1 := by rw [sSeq, e]
theorem t_nx : sNx τ h = .nx τ h := rfl
theorem t_set (e : f τ h = .ok d h1) : sSet i f τ h = .nx (τ.set i (some d)) h1 := by rw [sSet, e]; rfl
theorem t_ret (e : f τ h = .ok d h1) : sRet f τ h = .rt d h1 := by rw [sRet, e]; rfl
theorem t_ret2 {d' : D} {h1' : Hd} (e : f τ h = .ok d h1) (e1 : d = d') (e2 : h1 = h1') : sRet f τ h = .rt d' h1' := by rw [sRet, e, ← e1, ← e2]; rfl
theorem t_set2 {τ' : Sd} {h1' : Hd} (e : f τ h = .ok d h1) (e1 : τ.set i (some d) = τ') (e2 : h1 = h1') : sSet i f τ h = .nx τ' h1' := by rw [sSet, e, ← e1, ← e2]; rfl
theorem t_drop (e : f τ h = .ok d h1) : sDrop f τ h = .nx τ h1 := by rw [sDrop, e]; rfl
theorem t_ifT (e : c τ h = .ok true h1) (e2 : s τ h1 = q) : sIf c s s' τ h = q := by rw [sIf, e]; exact e2
theorem t_ifF (e : c τ h = .ok false h1) (e2 : s' τ h1 = q) : sIf c s s' τ h = q := by rw [sIf, e]; exact e2
theorem t_put (e1 : f1 τ h = .ok x h1) (e2 : f2 τ h1 = .ok y h2) (e3 : f3 τ h2 = .ok z h3) (e4 : put y z x h3 = some h4) : sPut f1 f2 f3 τ h = .nx τ h4 := by
  rw [sPut, e1]; show (f2 τ h1).fl _ = _; rw [e2]; show (f3 τ h2).fl _ = _; rw [e3]; show (match put y z x h3 with | some h4 => Fl.nx τ h4 | none => .no) = _; rw [e4]
theorem t_for {fi : SI} {g : SG} {it : Itm} (e : fi τ h = .ok it h1) (e2 : forL it.ck g s it.xs τ h1 = q) : sFor fi g s τ h = q := by rw [sFor, e]; exact e2
theorem body_rt {a : List D} (e : s (startD n a) h = .rt d h1) : bodyR s n a h = .ok d h1 := by rw [bodyR, e]
end
theorem gc_len {F : SF} {ds : List D} {h h1 : Hd} {d : D} (e : F ds h = .ok d h1) (l : h1.length = h.length) : gcF F ds h = .ok d h1 := by
  unfold gcF
  rw [e]
  dsimp only
  split
  · rw [← l, List.take_length]
  · rfl
theorem forL_all {ck : Hd → Prop} {g : SG} {b : SS} (all : List D) (I : List D → Sd → Hd → Prop) (c : ∀ pre τ h, I pre τ h → ck h)
    (st : ∀ pre x post τ h, all = pre ++ x :: post → I pre τ h → ∃ τ1 h1, g x τ h = .nx τ1 h1 ∧ ∃ τ2 h2, b τ1 h1 = .nx τ2 h2 ∧ I (pre ++ [x]) τ2 h2) :
    ∀ (xs pre : List D) (τ : Sd) (h : Hd), all = pre ++ xs → I pre τ h → ∃ τ' h', forL ck g b xs τ h = .nx τ' h' ∧ I all τ' h'
  | [], pre, τ, h, e, i0 => ⟨τ, h, by rw [forL, if_pos (c _ _ _ i0)], by rw [e, List.append_nil]; exact i0⟩
  | x :: xs, pre, τ, h, e, i0 => by
    obtain ⟨τ1, h1, e1, τ2, h2, e2, i2⟩ := st pre x xs τ h e i0
    obtain ⟨τ', h', e3, i3⟩ := forL_all all I c st xs (pre ++ [x]) τ2 h2 (by rw [e]; simp) i2
    refine ⟨τ', h', ?_, i3⟩
    rw [forL, if_pos (c _ _ _ i0), e1]
    dsimp only
    rw [e2]
    exact e3
theorem mapR_all {ck : Hd → Prop} {f : D → Hd → R D} (all : List D) (I : List D → List D → Hd → Prop) (c : ∀ pre ys h, I pre ys h → ck h)
    (st : ∀ pre x post ys h, all = pre ++ x :: post → I pre ys h → ∃ y h', f x h = .ok y h' ∧ I (pre ++ [x]) (ys ++ [y]) h') :
    ∀ (xs pre ys : List D) (h : Hd), all = pre ++ xs → I pre ys h → ∃ zs h', mapR ck f xs h = .ok zs h' ∧ I all (ys ++ zs) h'
  | [], pre, ys, h, e, i0 => ⟨[], h, by rw [mapR, if_pos (c _ _ _ i0)], by rw [e, List.append_nil, List.append_nil]; exact i0⟩
  | x :: xs, pre, ys, h, e, i0 => by
    obtain ⟨y, h1, e1, i1⟩ := st pre x xs ys h e i0
    obtain ⟨zs, h', e2, i2⟩ := mapR_all all I c st xs (pre ++ [x]) (ys ++ [y]) h1 (by rw [e]; simp) i1
    refine ⟨y :: zs, h', ?_, by simpa using i2⟩
    rw [mapR, if_pos (c _ _ _ i0), e1]
    show (mapR ck f xs h1).bind _ = _
    rw [e2]; rfl
theorem e_comp {fi : SI} {t : D → Option Sd} {fe : SE} {ix : List Nat} {τ : Sd} {h h1 h2 : Hd} {it : Itm} {ys : List D} (e : fi τ h = .ok it h1) (l : it.xs.length ≤ LINE) (e2 : mapR it.ck (bindT t fe (frs' ix τ)) it.xs h1 = .ok ys h2) : sComp fi t fe ix τ h = .ok (.ref h2.length) (h2 ++ [.lst ys]) := by
  rw [sComp, e]
  show (if it.xs.length ≤ LINE then _ else _) = _
  rw [if_pos l, e2]; rfl
theorem e_rg1 {k : SA} {τ : Sd} {h h1 : Hd} {j : Int} (e : k τ h = .ok [.int j] h1) (b : B62 j) : sRg gRng1 k τ h = .ok ⟨rng 0 j.toNat, fun _ => True⟩ h1 := by
  rw [sRg, e]
  show gRng1 [.int j] h1 = _
  rw [gRng1, if_pos b]
theorem e_it {f : SE} {τ : Sd} {h h1 : Hd} {d : D} {r : R Itm} (e : f τ h = .ok d h1) (e2 : itOf d h1 = r) : sIt f τ h = r := by rw [sIt, e]; exact e2
end MI
set_option Elab.async false
set_option linter.all false
set_option maxRecDepth 100000
set_option maxHeartbeats 4000000
namespace PEN
open PySem PySem.Spec L2 MI
noncomputable def b_pen : SS :=
 (sRet (sA gLst (sCons (sSl2 (sV 0) oN (oS (sC (.int 63)))) (sCons (sC (.int 0)) (sCons (sC (.int 0)) sNil)))))
noncomputable def b_take : SS :=
 (sSeq (sIf (sT (s2 gGt (s2 gIx (sV 0) (sC (.int 2))) (sC (.int 0))))
  (sSeq (sSet 2 (s2 gMod (s2 gIx (sV 0) (sC (.int 2))) (sV 1)))
 (sSeq (sPut (s2 gDiv (s2 gIx (sV 0) (sC (.int 2))) (sV 1)) (sV 0) (sC (.int 2)))
 (sRet (sV 2))))
  sNx)
 (sSeq (sSet 3 (s2 gIx (sV 0) (sC (.int 1))))
 (sSeq (sPut (s2 gAdd (sV 3) (sC (.int 1))) (sV 0) (sC (.int 1)))
 (sSeq (sSet 4 (sC (.int 5)))
 (sSeq (sIf (sT (s2 gGt (sA gLen (sCons (s2 gIx (sV 0) (sC (.int 0))) sNil)) (sC (.int 0))))
  (sSet 4 (s2 gIx (s2 gIx (sV 0) (sC (.int 0))) (s2 gMod (sV 3) (sA gLen (sCons (s2 gIx (sV 0) (sC (.int 0))) sNil)))))
  sNx)
 (sSeq (sIf (sAnd (sT (s2 gLt (sV 3) (sA gLen (sCons (s2 gIx (sV 0) (sC (.int 0))) sNil)))) (sT (s2 gGe (sA gAbs (sCons (sV 4) sNil)) (s2 gPow (sC (.int 10)) (sC (.int 18))))))
  (sSeq (sSet 5 (s2 gAdd (s2 gMul (sC (.int 2)) (sA gAbs (sCons (sV 4) sNil))) (sA gInt (sCons (s2 gLt (sV 4) (sC (.int 0))) sNil))))
 (sSeq (sPut (s2 gDiv (sV 5) (sV 1)) (sV 0) (sC (.int 2)))
 (sRet (s2 gMod (sV 5) (sV 1)))))
  sNx)
 (sSeq (sSet 6 (s2 gMod (s2 gPow (s2 gAdd (s2 gAdd (s2 gMod (sV 4) (sC (.int 2147483587))) (s2 gMul (sC (.int 40709)) (sV 3))) (sC (.int 31))) (sC (.int 3))) (sC (.int 2147483647))))
 (sSeq (sSet 6 (s2 gMod (s2 gAdd (s2 gAdd (s2 gMul (sV 6) (sV 6)) (s2 gMul (sC (.int 48271)) (sV 6))) (sV 3)) (sC (.int 2147483629))))
 (sRet (s2 gMod (s2 gDiv (sV 6) (sC (.int 64))) (sV 1)))))))))))
noncomputable def b_signs : SS :=
 (sSeq (sSet 0 (sC (.str " !\"#$&'()*+,-./0123456789:;<=>?@ABCDEFGHIJKLMNOPQRSTUVWXYZ[\\]^_`")))
 (sRet (s2 gAdd (sV 0) (sC (.str "abcdefghijklmnopqrstuvwxyz{|}~\n")))))
noncomputable def b_some (F_law_take : SF) : SS :=
 (sSeq (sSet 3 (sC (.str "")))
 (sSeq (sFor (sRg gRng1 (sCons (s2 gAdd (sC (.int 1)) (sA (sN 2 F_law_take) (sCons (sV 0) (sCons (sV 2) sNil)))) sNil)) (kN 4) (sSeq (sSet 5 (sA (sN 2 F_law_take) (sCons (sV 0) (sCons (sA gLen (sCons (sV 1) sNil)) sNil))))
 (sSeq (sSet 3 (s2 gAdd (sV 3) (s2 gIx (sV 1) (sV 5))))
 (sSet 1 (s2 gAdd (sSl2 (sV 1) oN (oS (sV 5))) (sSl2 (sV 1) (oS (s2 gAdd (sV 5) (sC (.int 1)))) oN))))))
 (sRet (sV 3))))
theorem atI_0 {α : Type} (x : α) (xs : List α) : atI (x :: xs) 0 = some x := atI_nat (j := 0) rfl
theorem atI_1 {α : Type} (x y : α) (xs : List α) : atI (x :: y :: xs) 1 = some y := atI_nat (j := 1) rfl
theorem atI_2 {α : Type} (x y z : α) (xs : List α) : atI (x :: y :: z :: xs) 2 = some z := atI_nat (j := 2) rfl
theorem atI_3 {α : Type} (x y z w : α) (xs : List α) : atI (x :: y :: z :: w :: xs) 3 = some w := atI_nat (j := 3) rfl
theorem ix31 : ixN 3 1 = some 1 := rfl
theorem ix32 : ixN 3 2 = some 2 := rfl
theorem ix30 : ixN 3 0 = some 0 := rfl
theorem ix10 : ixN 1 0 = some 0 := rfl
local macro_rules | `(tactic| walk_at "eq") => `(tactic| first | exact rfl | (simp only [List.set_cons_zero, List.set_cons_succ, List.set_set, *] <;> exact rfl))
local macro_rules | `(tactic| walk_at "g") => `(tactic| first | exact rfl | (simp only [gIx, seqD, atI_0, atI_1, atI_2, atI_3, gGt, gGe, gLt, gLe, gAdd, MI.gSub, gMod, gDiv, gPow, gAbs, gInt, gLen, gMax2, gMin2, MI.gTup, MI.gLst, tru, hEq, hNe, pur, eqD, gIs, gIsNot, isNon, gNeg, gIAdd, gMul, List.length_map, *, ite_true, ite_false, if_true, if_false, reduceIte, decide_true, decide_false, and_self, and_true, true_and, Bool.true_eq_false, Nat.reduceLeDiff, List.length_cons, List.length_nil, Nat.reduceAdd, Int.reduceLE, Int.reduceLT, ne_eq, not_false_eq_true, not_true_eq_false] <;> exact rfl) | assumption)
local macro_rules | `(tactic| walk_at "p") => `(tactic| first | exact rfl | (simp only [put, *, List.length_cons, List.length_nil, Nat.reduceAdd, ix31, ix32, ix30, ix10] <;> exact rfl))
local macro_rules | `(tactic| walk_at "ev") => `(tactic| first
  | (with_reducible exact e_c)
  | ((with_reducible apply e_v); exact rfl)
  | (with_reducible exact e_nil)
  | (with_reducible exact e_oN)
  | ((with_reducible apply e_2); walk_at "ev"; walk_at "ev"; walk_at "g")
  | ((with_reducible apply e_1); walk_at "ev"; walk_at "g")
  | ((with_reducible apply e_a); walk_at "ev"; first | ((with_reducible apply e_call); exact rfl; first | assumption | walk_at "g") | walk_at "g")
  | ((with_reducible apply e_cons); walk_at "ev"; walk_at "ev")
  | ((with_reducible apply e_T); walk_at "ev")
  | ((with_reducible apply e_not); walk_at "ev")
  | ((with_reducible apply e_tru); walk_at "ev"; walk_at "g")
  | ((with_reducible apply e_oS); walk_at "ev")
  | ((with_reducible apply e_sl); walk_at "ev"; walk_at "ev"; walk_at "ev"; walk_at "g")
  | ((with_reducible apply e_notV); walk_at "ev")
  | ((with_reducible apply e_andF); walk_at "ev")
  | ((with_reducible apply e_andT); walk_at "ev"; walk_at "ev")
  | ((with_reducible apply e_orT); walk_at "ev")
  | ((with_reducible apply e_orF); walk_at "ev"; walk_at "ev")
  | ((with_reducible apply e_andVF); walk_at "ev")
  | ((with_reducible apply e_andVT); walk_at "ev"; walk_at "ev")
  | ((with_reducible apply e_orVT); walk_at "ev")
  | ((with_reducible apply e_orVF); walk_at "ev"; walk_at "ev")
  | ((with_reducible apply e_ifT); walk_at "ev"; walk_at "ev")
  | ((with_reducible apply e_ifF); walk_at "ev"; walk_at "ev"))
local macro_rules | `(tactic| walk_at "st") => `(tactic| first
  | (with_reducible exact t_nx)
  | ((with_reducible apply t_set2); walk_at "ev"; walk_at "eq"; walk_at "eq")
  | ((with_reducible apply t_ret2); walk_at "ev"; walk_at "eq"; walk_at "eq")
  | ((with_reducible apply t_drop); walk_at "ev")
  | ((with_reducible apply t_put); walk_at "ev"; walk_at "ev"; walk_at "ev"; walk_at "p")
  | ((with_reducible apply t_ifF); walk_at "ev"; walk_at "st")
  | ((with_reducible apply t_ifT); walk_at "ev"; walk_at "st")
  | ((with_reducible apply t_seq); walk_at "st"; walk_at "st")
  | ((with_reducible apply t_seqR); walk_at "st"))
structure Pen (h : Hd) (p n : Nat) : Prop where
  ex : ∃ (q : Nat) (cells : List Int) (a l : Int), h[p]? = some (.lst [.ref q, .int a, .int l]) ∧ h[q]? = some (.lst (cells.map D.int)) ∧ q < p ∧ 0 ≤ a ∧ a ≤ n ∧ 0 ≤ l ∧ cells.length ≤ 63
theorem take_body {h : Hd} {p n : Nat} {m : Int} (P : Pen h p n) (hn : n ≤ 1000000000000) (m0 : 0 < m) (m1 : m < 1073741824) : ∃ r o, bodyR b_take 7 [.ref p, .int m] h = .ok (.int r) (h.set p o) ∧ 0 ≤ r ∧ r < m ∧ Pen (h.set p o) p (n + 1) := by
  obtain ⟨q, cells, a, l, hp, hq, lt, a0, a1, l0, c63⟩ := P.ex
  have ne : q ≠ p := Nat.ne_of_lt lt
  have lp : p < h.length := (List.getElem?_eq_some_iff.mp hp).1
  have sp : ∀ o, (h.set p o)[p]? = some o := fun o => List.getElem?_set_self lp
  have sq : ∀ o, (h.set p o)[q]? = some (.lst (cells.map D.int)) := fun o => by rw [List.getElem?_set_ne (Ne.symm ne)]; exact hq
  by_cases hl : 0 < l
  · refine ⟨l % m, .lst [.ref q, .int a, .int (l / m)], ?_, Int.emod_nonneg _ (by omega), Int.emod_lt_of_pos _ m0, ⟨q, cells, a, l / m, sp _, sq _, lt, a0, by omega, Int.ediv_nonneg l0 (by omega), c63⟩⟩
    apply body_rt
    unfold b_take
    walk_at "st"
  · have l00 : l = 0 := by omega
    subst l00
    have key : ∃ c : Int, ∀ (τ : Sd) (h' : Hd), h' = h.set p (.lst [.ref q, .int (a + 1), .int 0]) → τ = [some (.ref p), some (.int m), none, some (.int a), some (.int 5), none, none] →
        (sIf (sT (s2 gGt (sA gLen (sCons (s2 gIx (sV 0) (sC (.int 0))) sNil)) (sC (.int 0)))) (sSet 4 (s2 gIx (s2 gIx (sV 0) (sC (.int 0))) (s2 gMod (sV 3) (sA gLen (sCons (s2 gIx (sV 0) (sC (.int 0))) sNil))))) sNx) τ h'
          = .nx [some (.ref p), some (.int m), none, some (.int a), some (.int c), none, none] h' := by
      by_cases hc : cells = []
      · subst hc
        refine ⟨5, fun τ h' e1 e2 => ?_⟩
        subst e1 e2
        have z : decide ((0 : Int) < ((0 : Nat) : Int)) = false := by decide
        walk_at "st"
      · have lc : (0 : Int) < (cells.length : Int) := by
          have := List.length_pos_iff.mpr hc
          omega
        have hm0 := Int.emod_nonneg a (show (cells.length : Int) ≠ 0 by omega)
        have hm1 := Int.emod_lt_of_pos a lc
        obtain ⟨j, ej⟩ := Int.eq_ofNat_of_zero_le hm0
        have hj : j < cells.length := by omega
        have hat : atI (cells.map D.int) (a % (cells.length : Int)) = some (.int cells[j]) := by
          rw [ej]; exact atI_nat (by simp [hj])
        clear ej hm0 hm1
        refine ⟨cells[j], fun τ h' e1 e2 => ?_⟩
        subst e1 e2
        have z : decide ((0 : Int) < (cells.length : Int)) = true := decide_eq_true lc
        walk_at "st"
    obtain ⟨c, key⟩ := key
    have p1 : (0 : Int) ≤ 3 ∧ (3 : Int) ≤ 1000000 ∧ (c % 2147483587 + 40709 * a + 31).natAbs < 2 ^ 64 := ⟨by decide, by decide, by
      have := Int.emod_nonneg c (show (2147483587 : Int) ≠ 0 by decide)
      have := Int.emod_lt_of_pos c (show (0 : Int) < 2147483587 by decide)
      omega⟩
    have p2 : (0 : Int) ≤ 18 ∧ (18 : Int) ≤ 1000000 ∧ (10 : Int).natAbs < 2 ^ 64 := by decide
    have k1 : (0 : Int) < 2147483587 := by decide
    have k2 : (0 : Int) < 2147483647 := by decide
    have k3 : (0 : Int) < 2147483629 := by decide
    have k4 : (0 : Int) < 64 ∧ (64 : Int) < 1073741824 := by decide
    have k5 : 0 < m ∧ m < 1073741824 := ⟨m0, m1⟩
    generalize hN : (c % 2147483587 + 40709 * a + 31) ^ (3 : Int).toNat % 2147483647 = N
    have N0 : 0 ≤ N := by rw [← hN]; exact Int.emod_nonneg _ (by decide)
    have N1 : N < 2147483647 := by rw [← hN]; exact Int.emod_lt_of_pos _ (by decide)
    have c1 : CMul 40709 a := .inl ⟨by decide, by decide⟩
    have c2 : CMul N N := .inl ⟨by omega, by omega⟩
    have c3 : CMul 48271 N := .inl ⟨by decide, by decide⟩
    have c4 : CMul 2 (if c < 0 then -c else c) := .inl ⟨by decide, by decide⟩
    have t0 : ∀ τ : Sd, τ = [some (.ref p), some (.int m), none, some (.int a), some (.int c), none, none] → ∀ h' : Hd, h' = h.set p (.lst [.ref q, .int (a + 1), .int 0]) →
        (sSeq (sSet 6 (s2 gMod (s2 gPow (s2 gAdd (s2 gAdd (s2 gMod (sV 4) (sC (.int 2147483587))) (s2 gMul (sC (.int 40709)) (sV 3))) (sC (.int 31))) (sC (.int 3))) (sC (.int 2147483647))))
         (sSeq (sSet 6 (s2 gMod (s2 gAdd (s2 gAdd (s2 gMul (sV 6) (sV 6)) (s2 gMul (sC (.int 48271)) (sV 6))) (sV 3)) (sC (.int 2147483629))))
         (sRet (s2 gMod (s2 gDiv (sV 6) (sC (.int 64))) (sV 1))))) τ h' = .rt (.int ((N * N + 48271 * N + a) % 2147483629 / 64 % m)) h' := fun τ e1 h' e2 => by
      subst e1 e2
      walk_at "st"
    have fin : ∀ o, o = O.lst [.ref q, .int (a + 1), .int 0] → Pen (h.set p o) p (n + 1) := fun o eo => by subst eo; exact ⟨q, cells, a + 1, 0, sp _, sq _, lt, by omega, by omega, Int.le_refl _, c63⟩
    have dl : decide ((0 : Int) < 0) = false := by decide
    by_cases hb : a < (cells.length : Int) ∧ (10 : Int) ^ (18 : Int).toNat ≤ (if c < 0 then -c else c)
    · obtain ⟨b1, b2⟩ := hb
      have d1 : decide (a < (cells.length : Int)) = true := decide_eq_true b1
      have d2 : decide ((10 : Int) ^ (18 : Int).toNat ≤ (if c < 0 then -c else c)) = true := decide_eq_true b2
      generalize hg : 2 * (if c < 0 then -c else c) + (if decide (c < 0) = true then 1 else 0) = G
      have G0 : 0 ≤ G := by rw [← hg]; split <;> split <;> omega
      refine ⟨G % m, .lst [.ref q, .int (a + 1), .int (G / m)], ?_, Int.emod_nonneg _ (by omega), Int.emod_lt_of_pos _ m0, ⟨q, cells, a + 1, G / m, sp _, sq _, lt, by omega, by omega, Int.ediv_nonneg G0 (by omega), c63⟩⟩
      apply body_rt
      unfold b_take
      with_reducible apply t_seq
      walk_at "st"
      with_reducible apply t_seq
      walk_at "st"
      with_reducible apply t_seq
      walk_at "st"
      with_reducible apply t_seq
      walk_at "st"
      with_reducible apply t_seq
      exact key _ _ rfl rfl
      with_reducible apply t_seqR
      walk_at "st"
    · refine ⟨(N * N + 48271 * N + a) % 2147483629 / 64 % m, _, ?_, Int.emod_nonneg _ (by omega), Int.emod_lt_of_pos _ m0, fin _ rfl⟩
      apply body_rt
      unfold b_take
      with_reducible apply t_seq
      walk_at "st"
      with_reducible apply t_seq
      walk_at "st"
      with_reducible apply t_seq
      walk_at "st"
      with_reducible apply t_seq
      walk_at "st"
      with_reducible apply t_seq
      exact key _ _ rfl rfl
      with_reducible apply t_seq
      · by_cases b1 : a < (cells.length : Int)
        · have b2 : ¬ (10 : Int) ^ (18 : Int).toNat ≤ (if c < 0 then -c else c) := fun z => hb ⟨b1, z⟩
          have d1 : decide (a < (cells.length : Int)) = true := decide_eq_true b1
          have d2 : decide ((10 : Int) ^ (18 : Int).toNat ≤ (if c < 0 then -c else c)) = false := decide_eq_false b2
          walk_at "st"
        · have d1 : decide (a < (cells.length : Int)) = false := decide_eq_false b1
          walk_at "st"
      exact t0 _ rfl _ rfl
def TakeOk (F : SF) : Prop := ∀ (h : Hd) (p n : Nat) (m : Int), Pen h p n → n ≤ 1000000000000 → 0 < m → m < 1073741824 → ∃ r o, F [.ref p, .int m] h = .ok (.int r) (h.set p o) ∧ 0 ≤ r ∧ r < m ∧ Pen (h.set p o) p (n + 1)
theorem take_ok : TakeOk (gcF (bodyR b_take 7)) := fun h p n m P hn m0 m1 => by
  obtain ⟨r, o, e, r0, r1, P'⟩ := take_body P hn m0 m1
  exact ⟨r, o, gc_len e (by rw [List.length_set]), r0, r1, P'⟩
theorem Pen.up {h : Hd} {p n m : Nat} (P : Pen h p n) (l : n ≤ m) : Pen h p m := by
  obtain ⟨q, cells, a, l', h1, h2, h3, h4, h5, h6⟩ := P.ex
  exact ⟨q, cells, a, l', h1, h2, h3, h4, by omega, h6⟩
theorem pen_ok (ns : List Int) (h : Hd) : ∃ p g, gcF (bodyR b_pen 1) [.rol (ns.map D.int)] h = .ok (.ref p) (h ++ g) ∧ h.length ≤ p ∧ Pen (h ++ g) p 0 := by
  have hc : cutL (ns.map D.int) none (some 63) = (ns.take 63).map D.int := by
    have := cutL_to (ns.map D.int) 63
    rw [show ((63 : Nat) : Int) = 63 from rfl] at this
    rw [this, List.map_take]
  have e : bodyR b_pen 1 [.rol (ns.map D.int)] h = .ok (.ref (h ++ [O.lst ((ns.take 63).map D.int)]).length) (h ++ [O.lst ((ns.take 63).map D.int)] ++ [.lst [.ref h.length, .int 0, .int 0]]) := by
    apply body_rt
    unfold b_pen
    apply t_ret2
    · apply e_a
      · apply e_cons
        · apply e_sl
          · apply e_v; exact rfl
          · exact e_oN
          · apply e_oS; exact e_c
          · show R.ok _ _ = _
            rw [hc]
        · apply e_cons
          · exact e_c
          · apply e_cons
            · exact e_c
            · exact e_nil
      · exact rfl
    · rfl
    · rfl
  refine ⟨h.length + 1, [.lst ((ns.take 63).map D.int), .lst [.ref h.length, .int 0, .int 0]], ?_, by omega, ?_⟩
  · unfold gcF
    rw [e]
    dsimp only
    rw [if_neg]
    · simp
    · rintro ⟨_, z | z, _⟩
      · simp [clo] at z; omega
      · simp at z
  · refine ⟨h.length, ns.take 63, 0, 0, ?_, ?_, by omega, by decide, by decide, by decide, by rw [List.length_take]; omega⟩
    · rw [List.getElem?_append_right (by omega)]; simp
    · rw [List.getElem?_append_right (by omega)]; simp
def s1 : Str := " !\"#$&'()*+,-./0123456789:;<=>?@ABCDEFGHIJKLMNOPQRSTUVWXYZ[\\]^_`"
def s2' : Str := "abcdefghijklmnopqrstuvwxyz{|}~\n"
theorem signs_ok (h : Hd) : gcF (bodyR b_signs 1) [] h = .ok (.str (s1 ++ s2')) h := by
  apply gc_same
  apply body_rt
  unfold b_signs
  apply t_seq
  · apply t_set; exact e_c
  · apply t_ret
    apply e_2
    · apply e_v; exact rfl
    · exact e_c
    · show (if s1.length + s2'.length ≤ LINE then R.ok (D.str (s1 ++ s2')) h else .no) = _
      rw [if_pos (by decide +kernel)]
theorem signs_len : (s1 ++ s2').length = 95 := by decide +kernel
def SomeOk (F : SF) : Prop := ∀ (h : Hd) (p n : Nat) (T : Str) (m : Int), Pen h p n → n ≤ 900000000000 → 1 ≤ m → m ≤ T.length → T.length ≤ 1000 →
  ∃ x o, F [.ref p, .str T, .int m] h = .ok (.str x) (h.set p o) ∧ 1 ≤ x.length ∧ (x.length : Int) ≤ m ∧ Pen (h.set p o) p (n + 1 + m.toNat) ∧ ∃ rest : List Nat, (x.cps.toList ++ rest).Perm T.cps.toList
theorem some_body {F : SF} (hF : TakeOk F) {h : Hd} {p n : Nat} {T : Str} {m : Int} (P : Pen h p n) (hn : n ≤ 900000000000) (m1 : 1 ≤ m) (mT : m ≤ T.length) (hT : T.length ≤ 1000) :
    ∃ x o, bodyR (b_some F) 6 [.ref p, .str T, .int m] h = .ok (.str x) (h.set p o) ∧ 1 ≤ x.length ∧ (x.length : Int) ≤ m ∧ Pen (h.set p o) p (n + 1 + m.toNat) ∧ ∃ rest : List Nat, (x.cps.toList ++ rest).Perm T.cps.toList := by
  obtain ⟨r, o, e, r0, r1, P1⟩ := hF h p n m P (by omega) (by omega) (by omega)
  obtain ⟨k, rfl⟩ := Int.eq_ofNat_of_zero_le r0
  have lo := forL_all (ck := fun _ => True) (g := kN 4) (b := sSeq (sSet 5 (sA (sN 2 F) (sCons (sV 0) (sCons (sA gLen (sCons (sV 1) sNil)) sNil))))
     (sSeq (sSet 3 (s2 gAdd (sV 3) (s2 gIx (sV 1) (sV 5)))) (sSet 1 (s2 gAdd (sSl2 (sV 1) oN (oS (sV 5))) (sSl2 (sV 1) (oS (s2 gAdd (sV 5) (sC (.int 1)))) oN))))) (rng 0 (1 + (k : Int)).toNat)
    (fun pre τ h' => ∃ (x rs : Str) (o : O) (t4 t5 : Option D), τ = [some (.ref p), some (.str rs), some (.int m), some (.str x), t4, t5] ∧ h' = h.set p o ∧ Pen h' p (n + 1 + pre.length) ∧ x.length = pre.length ∧ (x.cps.toList ++ rs.cps.toList).Perm T.cps.toList)
    (fun _ _ _ _ => True.intro) ?_ (rng 0 (1 + (k : Int)).toNat) [] [some (.ref p), some (.str T), some (.int m), some (.str ""), none, none] (h.set p o) rfl ⟨"", T, o, none, none, rfl, rfl, P1, rfl, by rw [show (PySem.Str.ofString "").cps.toList = [] from rfl]; exact List.Perm.refl _⟩
  · obtain ⟨τ', h', e2, x, rs, o', t4, t5, rfl, rfl, P2, lx, pm⟩ := lo
    have lr : (rng 0 (1 + (k : Int)).toNat).length = k + 1 := by simp [rng]; omega
    rw [lr] at P2 lx
    refine ⟨x, o', ?_, by omega, by omega, P2.up (by omega), rs.cps.toList, pm⟩
    apply body_rt
    unfold b_some
    apply t_seq
    · apply t_set; exact e_c
    · apply t_seq
      · apply t_for
        · apply e_rg1
          · walk_at "ev"
          · constructor <;> omega
        · exact e2
      · walk_at "st"
  · rintro pre x post τ h' all ⟨y, rs, o', t4, t5, rfl, rfl, P2, ly, pm⟩
    refine ⟨_, _, rfl, ?_⟩
    have la : pre.length < k + 1 := by
      have := congrArg List.length all
      simp [rng] at this; omega
    have lrs : y.length + rs.length = T.length := by
      have := pm.length_eq
      rw [List.length_append, len_l, len_l, len_l] at this
      exact this
    have rs0 : (0 : Int) < (rs.length : Int) := by omega
    obtain ⟨r', o2, e3, q0, q1, P3⟩ := hF _ p _ (rs.length : Int) P2 (by omega) rs0 (by omega)
    obtain ⟨j, rfl⟩ := Int.eq_ofNat_of_zero_le q0
    have hj : j < rs.cps.toList.length := by rw [len_l]; omega
    have hat : atI rs.cps.toList (j : Int) = some rs.cps.toList[j] := atI_nat (List.getElem?_eq_getElem hj)
    have hl1 : rs.length ≤ LINE := by show rs.length ≤ 16777216; omega
    have c1 : (⟨(cutL rs.cps.toList none (some ((j : Nat) : Int))).toArray⟩ : Str).cps.toList = rs.cps.toList.take j := by rw [mk_l, cutL_to]
    have c2 : (⟨(cutL rs.cps.toList (some (((j : Nat) : Int) + 1)) none).toArray⟩ : Str).cps.toList = rs.cps.toList.drop (j + 1) := by
      have := cutL_from rs.cps.toList (j + 1)
      rw [show (((j + 1 : Nat)) : Int) = ((j : Nat) : Int) + 1 by omega] at this
      rw [mk_l, this]
    have l1 : (⟨(cutL rs.cps.toList none (some ((j : Nat) : Int))).toArray⟩ : Str).length ≤ rs.length := by rw [← len_l, c1, List.length_take, len_l]; omega
    have l2 : (⟨(cutL rs.cps.toList (some (((j : Nat) : Int) + 1)) none).toArray⟩ : Str).length ≤ rs.length := by rw [← len_l, c2, List.length_drop, len_l]; omega
    have lc : (⟨#[rs.cps.toList[j]]⟩ : Str).length = 1 := rfl
    refine ⟨[some (.ref p), some (.str (⟨(cutL rs.cps.toList none (some ((j : Nat) : Int))).toArray⟩ ++ ⟨(cutL rs.cps.toList (some (((j : Nat) : Int) + 1)) none).toArray⟩)), some (.int m), some (.str (y ++ ⟨#[rs.cps.toList[j]]⟩)), some x, some (.int j)], (h.set p o').set p o2, ?_, _, _, o2, _, _, rfl, by rw [List.set_set], by rw [List.length_append]; exact P3.up (by simp; omega), ?_, ?_⟩
    · apply t_seq
      · apply t_set
        apply e_a
        · apply e_cons
          · apply e_v; exact rfl
          · apply e_cons
            · apply e_a
              · apply e_cons
                · apply e_v; exact rfl
                · exact e_nil
              · show (if rs.length ≤ LINE then R.ok (D.int rs.length) _ else .no) = _
                rw [if_pos hl1]
            · exact e_nil
        · apply e_call rfl; exact e3
      · apply t_seq
        · apply t_set
          apply e_2
          · apply e_v; exact rfl
          · apply e_2
            · apply e_v; exact rfl
            · apply e_v; exact rfl
            · simp only [gIx, if_pos hl1, hat]
              exact rfl
          · show (if y.length + (⟨#[rs.cps.toList[j]]⟩ : Str).length ≤ LINE then R.ok (D.str (y ++ ⟨#[rs.cps.toList[j]]⟩)) _ else .no) = _
            rw [if_pos (by show _ ≤ 16777216; omega)]
        · apply t_set2
          · apply e_2
            · apply e_sl
              · apply e_v; exact rfl
              · exact e_oN
              · apply e_oS; apply e_v; exact rfl
              · show (if rs.length ≤ LINE then R.ok (D.str ⟨(cutL rs.cps.toList none (some ((j : Nat) : Int))).toArray⟩) _ else .no) = _
                rw [if_pos hl1]
            · apply e_sl
              · apply e_v; exact rfl
              · apply e_oS
                apply e_2
                · apply e_v; exact rfl
                · exact e_c
                · exact rfl
              · exact e_oN
              · show (if rs.length ≤ LINE then R.ok (D.str ⟨(cutL rs.cps.toList (some (((j : Nat) : Int) + 1)) none).toArray⟩) _ else .no) = _
                rw [if_pos hl1]
            · show (if _ ≤ LINE then R.ok (D.str _) _ else .no) = _
              rw [if_pos (by show _ ≤ 16777216; omega)]
          · rfl
          · rfl
    · rw [app_len, lc, List.length_append]; simp; omega
    · rw [app_l, app_l, c1, c2]
      refine List.Perm.trans ?_ pm
      rw [List.append_assoc]
      refine List.Perm.append_left _ ?_
      show ([rs.cps.toList[j]] ++ _).Perm _
      have e0 : rs.cps.toList = rs.cps.toList.take j ++ rs.cps.toList[j] :: rs.cps.toList.drop (j + 1) := by rw [← List.drop_eq_getElem_cons hj, List.take_append_drop]
      conv => rhs; rw [e0]
      rw [List.singleton_append]
      exact List.perm_middle.symm
theorem some_ok {F : SF} (hF : TakeOk F) : SomeOk (gcF (bodyR (b_some F) 6)) := fun h p n T m P hn m1 mT hT => by
  obtain ⟨x, o, e, r⟩ := some_body hF P hn m1 mT hT
  exact ⟨x, o, gc_len e (by rw [List.length_set]), r⟩
end PEN
set_option Elab.async false
set_option linter.all false
set_option maxRecDepth 100000
set_option maxHeartbeats 4000000
namespace SHF
open PySem PySem.Spec L2 MI PEN
open SHP (Sh)
noncomputable def b_inner : SS :=
 (sSeq (sIf (sT (s2 hEq (s2 gIx (sV 0) (sC (.int 0))) (sC (.str "one"))))
  (sRet (sA gTup sNil))
  sNx)
 (sSeq (sIf (sOr (sT (s2 hEq (s2 gIx (sV 0) (sC (.int 0))) (sC (.str "row")))) (sT (s2 hEq (s2 gIx (sV 0) (sC (.int 0))) (sC (.str "either")))))
  (sRet (s2 gIx (sV 0) (sC (.int 1))))
  sNx)
 (sRet (sA gTup (sCons (s2 gIx (sV 0) (sC (.int 1))) sNil)))))
noncomputable def b_weight (F_inner : SF) (F_weight : SF) : SS :=
 (sSeq (sIf (sT (s2 hEq (s2 gIx (sV 0) (sC (.int 0))) (sC (.str "one"))))
  (sRet (sC (.int 1)))
  sNx)
 (sSeq (sSet 1 (sA gSum (sCons (sComp (sIt (sA (sN 1 F_inner) (sCons (sV 0) sNil))) t1 (sA (sN 1 F_weight) (sCons (sV 0) sNil)) []) sNil)))
 (sSeq (sIf (sT (s2 hEq (s2 gIx (sV 0) (sC (.int 0))) (sC (.str "times"))))
  (sRet (s2 gMul (s2 gIx (sV 0) (sC (.int 3))) (sV 1)))
  sNx)
 (sRet (sV 1)))))
noncomputable def b_parts_of (F_inner : SF) (F_parts_of : SF) : SS :=
 (sSeq (sSet 1 (sA gLst (sCons (sV 0) sNil)))
 (sSeq (sFor (sIt (sA (sN 1 F_inner) (sCons (sV 0) sNil))) (kN 2) (sDrop (sML gExt (sV 1) (sCons (sA (sN 1 F_parts_of) (sCons (sV 2) sNil)) sNil))))
 (sRet (sA gTuple (sCons (sV 1) sNil)))))
noncomputable def b_law_shape (F_law_shape : SF) (F_law_some : SF) (F_law_take : SF) : SS :=
 (sSeq (sSet 4 (sA (sN 2 F_law_take) (sCons (sV 0) (sCons (sC (.int 10)) sNil))))
 (sSeq (sIf (sAnd (sT (s2 hEq (sV 2) (sC (.int 5)))) (sT (s2 gLt (sV 4) (sC (.int 2)))))
  (sSet 4 (s2 gAdd (sV 4) (sC (.int 4))))
  sNx)
 (sSeq (sIf (sAnd (sT (s2 hEq (sV 4) (sC (.int 9)))) (sT (s2 hEq (sA (sN 2 F_law_take) (sCons (sV 0) (sCons (sC (.int 2)) sNil))) (sC (.int 0)))))
  (sRet (sA gTup (sCons (sC (.str "row")) (sCons (sA gTup sNil) sNil))))
  sNx)
 (sSeq (sIf (sOr (sT (s2 hEq (sV 2) (sC (.int 1)))) (sOr (sT (s2 gLt (s2 gIx (sV 1) (sC (.int 0))) (sC (.int 1)))) (sT (s2 gLt (sV 4) (sC (.int 2))))))
  (sRet (sA gTup (sCons (sC (.str "one")) (sCons (sA (sN 3 F_law_some) (sCons (sV 0) (sCons (sV 3) (sCons (sA gLen (sCons (sV 3) sNil)) sNil)))) sNil))))
  sNx)
 (sSeq (sIf (sT (s2 gLt (sV 4) (sC (.int 4))))
  (sSeq (sPut (s2 gSub (s2 gIx (sV 1) (sC (.int 0))) (sC (.int 1))) (sV 1) (sC (.int 0)))
 (sSeq (sSet 5 (sA (sN 4 F_law_shape) (sCons (sV 0) (sCons (sV 1) (sCons (s2 gSub (sV 2) (sC (.int 1))) (sCons (sV 3) sNil))))))
 (sSeq (sIf (sT (s2 hEq (sV 4) (sC (.int 2))))
  (sRet (sA gTup (sCons (sC (.str "many")) (sCons (sV 5) sNil))))
  sNx)
 (sSeq (sSet 6 (sA (sN 2 F_law_take) (sCons (sV 0) (sCons (sC (.int 5)) sNil))))
 (sRet (sA gTup (sCons (sC (.str "times")) (sCons (sV 5) (sCons (sV 6) (sCons (s2 gAdd (sV 6) (sA (sN 2 F_law_take) (sCons (sV 0) (sCons (s2 gSub (sC (.int 5)) (sV 6)) sNil)))) sNil))))))))))
  sNx)
 (sSeq (sSet 7 (sA gMin2 (sCons (s2 gIx (sV 1) (sC (.int 0))) (sCons (s2 gAdd (sC (.int 1)) (sA (sN 2 F_law_take) (sCons (sV 0) (sCons (s2 gIx (sA gLst (sCons (sC (.int 2)) (sCons (sC (.int 3)) (sCons (sC (.int 6)) sNil)))) (sA (sN 2 F_law_take) (sCons (sV 0) (sCons (sC (.int 3)) sNil)))) sNil)))) sNil))))
 (sSeq (sPut (s2 gSub (s2 gIx (sV 1) (sC (.int 0))) (sV 7)) (sV 1) (sC (.int 0)))
 (sSeq (sSet 8 (sA gTuple (sCons (sComp (sRg gRng1 (sCons (sV 7) sNil)) t1 (sA (sN 4 F_law_shape) (sCons (sV 1) (sCons (sV 2) (sCons (s2 gSub (sV 3) (sC (.int 1))) (sCons (sV 4) sNil))))) [0, 1, 2, 3]) sNil)))
 (sRet (sA gTup (sCons (s2 gIx (sA gLst (sCons (sC (.str "row")) (sCons (sC (.str "either")) sNil))) (sA gInt (sCons (s2 gGt (sV 4) (sC (.int 6))) sNil))) (sCons (sV 8) sNil))))))))))))
noncomputable def b_law_parts (F_law_inner : SF) (F_law_parts : SF) : SS :=
 (sSeq (sSet 1 (sA gLst (sCons (sV 0) sNil)))
 (sSeq (sFor (sIt (sA (sN 1 F_law_inner) (sCons (sV 0) sNil))) (kN 2) (sSet 1 (s2 gAdd (sV 1) (sA (sN 1 F_law_parts) (sCons (sV 2) sNil)))))
 (sRet (sV 1))))
noncomputable def b_law_same (F_law_same : SF) : SS :=
 (sSeq (sIf (sTru (sA gIsi (sCons (sV 1) (sCons (sC (.ty "tuple")) sNil))))
  (sSeq (sIf (sOr (sNot (sTru (sA gIsi (sCons (sV 0) (sCons (sC (.ty "tuple")) sNil))))) (sT (s2 hNe (sA gLen (sCons (sV 0) sNil)) (sA gLen (sCons (sV 1) sNil)))))
  (sRet (sC (.bl false)))
  sNx)
 (sSeq (sFor (sZip (sV 0) (sV 1)) (kTup 2 (kCons (kN 2) (kCons (kN 3) kNil))) (sIf (sNot (sTru (sA (sN 2 F_law_same) (sCons (sV 2) (sCons (sV 3) sNil)))))
  (sRet (sC (.bl false)))
  sNx))
 (sRet (sC (.bl true)))))
  sNx)
 (sSeq (sIf (sTru (sA gIsi (sCons (sV 1) (sCons (sC (.ty "str")) sNil))))
  (sRet (sAndV (sA gIsi (sCons (sV 0) (sCons (sC (.ty "str")) sNil))) (s2 hEq (sV 0) (sV 1))))
  sNx)
 (sRet (sAndV (sA gIsi (sCons (sV 0) (sCons (sC (.ty "int")) sNil))) (sAndV (sNotV (sA gIsi (sCons (sV 0) (sCons (sC (.ty "bool")) sNil)))) (s2 hEq (sV 0) (sV 1)))))))
noncomputable def b_law_weights (F_law_inner : SF) (F_law_weights : SF) : SS :=
 (sSeq (sIf (sT (s2 hEq (s2 gIx (sV 0) (sC (.int 0))) (sC (.str "one"))))
  (sRet (sA gLst (sCons (sV 1) sNil)))
  sNx)
 (sSeq (sIf (sT (s2 hEq (s2 gIx (sV 0) (sC (.int 0))) (sC (.str "times"))))
  (sSet 1 (s2 gMul (sV 1) (s2 gIx (sV 0) (sC (.int 3)))))
  sNx)
 (sSeq (sSet 2 (sA gLst sNil))
 (sSeq (sFor (sIt (sA (sN 1 F_law_inner) (sCons (sV 0) sNil))) (kN 3) (sSet 2 (s2 gAdd (sV 2) (sA (sN 2 F_law_weights) (sCons (sV 3) (sCons (sV 1) sNil))))))
 (sRet (sV 2))))))
noncomputable def b_law_right (F_law_parts : SF) (F_law_same : SF) (F_law_weights : SF) (F_parts_of : SF) (F_weight : SF) : SS :=
 (sSeq (sSet 1 (sA (sN 1 F_law_parts) (sCons (sV 0) sNil)))
 (sSeq (sIf (sNot (sTru (sA (sN 2 F_law_same) (sCons (sA (sN 1 F_weight) (sCons (sV 0) sNil)) (sCons (sA gSum (sCons (sA (sN 2 F_law_weights) (sCons (sV 0) (sCons (sC (.int 1)) sNil))) sNil)) sNil)))))
  (sRet (sC (.bl false)))
  sNx)
 (sSeq (sSet 2 (sA (sN 1 F_parts_of) (sCons (sV 0) sNil)))
 (sSeq (sIf (sNot (sTru (sA (sN 2 F_law_same) (sCons (sV 2) (sCons (sA gTuple (sCons (sV 1) sNil)) sNil)))))
  (sRet (sC (.bl false)))
  sNx)
 (sSeq (sFor (sRg gRng1 (sCons (sA gLen (sCons (sV 1) sNil)) sNil)) (kN 3) (sSeq (sSet 4 (sA gLen (sCons (sA (sN 1 F_law_parts) (sCons (s2 gIx (sV 1) (sV 3)) sNil)) sNil)))
 (sIf (sT (s2 hNe (sA (sN 1 F_parts_of) (sCons (s2 gIx (sV 2) (sV 3)) sNil)) (sSl2 (sV 2) (oS (sV 3)) (oS (s2 gAdd (sV 3) (sV 4))))))
  (sRet (sC (.bl false)))
  sNx)))
 (sRet (sA (sN 2 F_law_same) (sCons (sA (sN 1 F_weight) (sCons (sV 0) sNil)) (sCons (sA gSum (sCons (sA (sN 2 F_law_weights) (sCons (sV 0) (sCons (sC (.int 1)) sNil))) sNil)) sNil)))))))))
local macro_rules | `(tactic| walk_at "eq") => `(tactic| first | exact rfl | (simp only [List.set_cons_zero, List.set_cons_succ, List.set_set, *] <;> exact rfl))
local macro_rules | `(tactic| walk_at "g") => `(tactic| first | exact rfl | (simp only [gIx, seqD, atI_0, atI_1, atI_2, atI_3, gGt, gGe, gLt, gLe, gAdd, MI.gSub, gMod, gDiv, gPow, gAbs, gInt, gLen, gMax2, gMin2, MI.gTup, MI.gLst, tru, hEq, hNe, pur, eqD, gIs, gIsNot, isNon, gNeg, gIAdd, gMul, List.length_map, *, ite_true, ite_false, if_true, if_false, reduceIte, decide_true, decide_false, and_self, and_true, true_and, Bool.true_eq_false, Nat.reduceLeDiff, List.length_cons, List.length_nil, Nat.reduceAdd, Int.reduceLE, Int.reduceLT, ne_eq, not_false_eq_true, not_true_eq_false] <;> exact rfl) | assumption)
local macro_rules | `(tactic| walk_at "p") => `(tactic| first | exact rfl | (simp only [put, *, List.length_cons, List.length_nil, Nat.reduceAdd, ix31, ix32, ix30, ix10] <;> exact rfl))
local macro_rules | `(tactic| walk_at "ev") => `(tactic| first
  | (with_reducible exact e_c)
  | ((with_reducible apply e_v); exact rfl)
  | (with_reducible exact e_nil)
  | (with_reducible exact e_oN)
  | ((with_reducible apply e_2); walk_at "ev"; walk_at "ev"; walk_at "g")
  | ((with_reducible apply e_1); walk_at "ev"; walk_at "g")
  | ((with_reducible apply e_a); walk_at "ev"; first | ((with_reducible apply e_call); exact rfl; first | assumption | walk_at "g") | walk_at "g")
  | ((with_reducible apply e_cons); walk_at "ev"; walk_at "ev")
  | ((with_reducible apply e_T); walk_at "ev")
  | ((with_reducible apply e_not); walk_at "ev")
  | ((with_reducible apply e_tru); walk_at "ev"; walk_at "g")
  | ((with_reducible apply e_oS); walk_at "ev")
  | ((with_reducible apply e_sl); walk_at "ev"; walk_at "ev"; walk_at "ev"; walk_at "g")
  | ((with_reducible apply e_notV); walk_at "ev")
  | ((with_reducible apply e_andF); walk_at "ev")
  | ((with_reducible apply e_andT); walk_at "ev"; walk_at "ev")
  | ((with_reducible apply e_orT); walk_at "ev")
  | ((with_reducible apply e_orF); walk_at "ev"; walk_at "ev")
  | ((with_reducible apply e_andVF); walk_at "ev")
  | ((with_reducible apply e_andVT); walk_at "ev"; walk_at "ev")
  | ((with_reducible apply e_orVT); walk_at "ev")
  | ((with_reducible apply e_orVF); walk_at "ev"; walk_at "ev")
  | ((with_reducible apply e_ifT); walk_at "ev"; walk_at "ev")
  | ((with_reducible apply e_ifF); walk_at "ev"; walk_at "ev"))
local macro_rules | `(tactic| walk_at "st") => `(tactic| first
  | (with_reducible exact t_nx)
  | ((with_reducible apply t_set2); walk_at "ev"; walk_at "eq"; walk_at "eq")
  | ((with_reducible apply t_ret2); walk_at "ev"; walk_at "eq"; walk_at "eq")
  | ((with_reducible apply t_drop); walk_at "ev")
  | ((with_reducible apply t_put); walk_at "ev"; walk_at "ev"; walk_at "ev"; walk_at "p")
  | ((with_reducible apply t_ifF); walk_at "ev"; walk_at "st")
  | ((with_reducible apply t_ifT); walk_at "ev"; walk_at "st")
  | ((with_reducible apply t_seq); walk_at "st"; walk_at "st")
  | ((with_reducible apply t_seqR); walk_at "st"))
mutual
def toD : Sh → D
  | .one s => .tup [.str "one", .str s]
  | .row ps => .tup [.str "row", .tup (toDs ps)]
  | .either ps => .tup [.str "either", .tup (toDs ps)]
  | .many p => .tup [.str "many", toD p]
  | .times p lo hi => .tup [.str "times", toD p, .int lo, .int hi]
def toDs : List Sh → List D
  | [] => []
  | p :: ps => toD p :: toDs ps
end
theorem toDs_map (ps : List Sh) : toDs ps = ps.map toD := by
  induction ps with
  | nil => rfl
  | cons p ps ih => rw [toDs, ih]; rfl
def kids : Sh → List Sh
  | .one _ => []
  | .row ps => ps
  | .either ps => ps
  | .many p => [p]
  | .times p _ _ => [p]
def good : Nat → Sh → Prop
  | 0, _ => False
  | _ + 1, .one _ => True
  | n + 1, .row ps => ps.length ≤ 6 ∧ ∀ p ∈ ps, good n p
  | n + 1, .either ps => ps.length ≤ 6 ∧ ∀ p ∈ ps, good n p
  | n + 1, .many p => good n p
  | n + 1, .times p lo hi => (0 ≤ lo ∧ lo ≤ hi ∧ hi ≤ 4) ∧ good n p
theorem good_kids {n : Nat} : ∀ {sh : Sh}, good (n + 1) sh → (kids sh).length ≤ 6 ∧ ∀ p ∈ kids sh, good n p
  | .one _, _ => ⟨by simp [kids], by simp [kids]⟩
  | .row ps, h => h
  | .either ps, h => h
  | .many p, h => ⟨by simp [kids], fun q hq => by rw [List.mem_singleton.mp hq]; exact h⟩
  | .times p lo hi, h => ⟨by simp [kids], fun q hq => by rw [List.mem_singleton.mp hq]; exact h.2⟩
theorem good_up : ∀ {n : Nat} {sh : Sh}, good n sh → good (n + 1) sh
  | 0, _, h => h.elim
  | n + 1, .one _, _ => True.intro
  | n + 1, .row ps, h => ⟨h.1, fun p hp => good_up (h.2 p hp)⟩
  | n + 1, .either ps, h => ⟨h.1, fun p hp => good_up (h.2 p hp)⟩
  | n + 1, .many p, h => good_up (n := n) h
  | n + 1, .times p lo hi, h => ⟨h.1, good_up h.2⟩
theorem good_le {n m : Nat} {sh : Sh} (h : good n sh) (l : n ≤ m) : good m sh := by
  induction l with
  | refl => exact h
  | step _ ih => exact good_up ih
theorem clos_of {n : Nat} : ∀ {ds : List D}, (∀ d ∈ ds, clo n d) → clos n ds
  | [], _ => by simp [clos]
  | x :: xs, h => by simp only [clos]; exact ⟨h x (List.mem_cons_self ..), clos_of fun d hd => h d (List.mem_cons_of_mem _ hd)⟩
theorem clo_toD (k : Nat) : ∀ {n : Nat} {sh : Sh}, good n sh → clo k (toD sh)
  | 0, _, h => h.elim
  | n + 1, .one s, _ => by simp [toD, clo, clos]
  | n + 1, .row ps, h => by
    simp only [toD, clo, clos, toDs_map, true_and, and_true]
    exact clos_of fun d hd => by obtain ⟨p, hp, rfl⟩ := List.mem_map.mp hd; exact clo_toD k (h.2 p hp)
  | n + 1, .either ps, h => by
    simp only [toD, clo, clos, toDs_map, true_and, and_true]
    exact clos_of fun d hd => by obtain ⟨p, hp, rfl⟩ := List.mem_map.mp hd; exact clo_toD k (h.2 p hp)
  | n + 1, .many p, h => by
    simp only [toD, clo, clos, true_and, and_true]
    exact clo_toD k (n := n) h
  | n + 1, .times p lo hi, h => by
    simp only [toD, clo, clos, true_and, and_true]
    exact clo_toD k h.2
theorem clos_toD (k : Nat) {n : Nat} {ps : List Sh} (h : ∀ p ∈ ps, good n p) : clos k (ps.map toD) := clos_of fun d hd => by obtain ⟨p, hp, rfl⟩ := List.mem_map.mp hd; exact clo_toD k (h p hp)
theorem pur_toD : ∀ {n : Nat} {sh : Sh}, good n sh → pur (2 * n) (toD sh) = true
  | 0, _, h => h.elim
  | n + 1, .one s, _ => by
    simp only [toD]
    show (([D.str "one", D.str s] : List D).all (pur (2 * n + 1))) = true
    simp [pur]
  | n + 1, .row ps, h => by
    simp only [toD, toDs_map]
    show (([D.str "row", D.tup (ps.map toD)] : List D).all (pur (2 * n + 1))) = true
    simp only [List.all_cons, List.all_nil, pur, Bool.and_true, Bool.true_and, List.all_eq_true]
    intro d hd
    obtain ⟨p, hp, rfl⟩ := List.mem_map.mp hd
    exact pur_toD (h.2 p hp)
  | n + 1, .either ps, h => by
    simp only [toD, toDs_map]
    show (([D.str "either", D.tup (ps.map toD)] : List D).all (pur (2 * n + 1))) = true
    simp only [List.all_cons, List.all_nil, pur, Bool.and_true, Bool.true_and, List.all_eq_true]
    intro d hd
    obtain ⟨p, hp, rfl⟩ := List.mem_map.mp hd
    exact pur_toD (h.2 p hp)
  | n + 1, .many p, h => by
    simp only [toD]
    show (([D.str "many", toD p] : List D).all (pur (2 * n + 1))) = true
    simp only [List.all_cons, List.all_nil, Bool.and_true]
    rw [pur_up (Nat.le_succ _) (pur_toD (n := n) h)]; simp [pur]
  | n + 1, .times p lo hi, h => by
    simp only [toD]
    show (([D.str "times", toD p, .int lo, .int hi] : List D).all (pur (2 * n + 1))) = true
    simp only [List.all_cons, List.all_nil, Bool.and_true]
    rw [pur_up (Nat.le_succ _) (pur_toD h.2)]; simp [pur]
theorem eqD_refl : ∀ (n : Nat) (d : D), pur n d = true → eqD d d = true := by
  intro n
  induction n with
  | zero => intro d h; cases d <;> first | (simp [eqD]; done) | (cases h; done)
  | succ n ih =>
    intro d h
    cases d with
    | tup xs =>
      simp only [pur, List.all_eq_true] at h
      simp only [eqD]
      induction xs with
      | nil => rfl
      | cons x xs ih2 =>
        simp only [eqDs, Bool.and_eq_true]
        exact ⟨ih x (h x (List.mem_cons_self ..)), ih2 fun y hy => h y (List.mem_cons_of_mem _ hy)⟩
    | _ => first | (simp [eqD]; done) | (cases h; done)
theorem inner_ok (sh : Sh) (h : Hd) {n : Nat} (g : good n sh) : gcF (bodyR b_inner 1) [toD sh] h = .ok (.tup ((kids sh).map toD)) h := by
  apply gc_same
  apply body_rt
  unfold b_inner
  cases sh with
  | one s => simp only [toD, kids]; walk_at "st"
  | row ps => simp only [toD, kids, toDs_map]; walk_at "st"
  | either ps => simp only [toD, kids, toDs_map]; walk_at "st"
  | many p => simp only [toD, kids]; walk_at "st"
  | times p lo hi => simp only [toD, kids]; walk_at "st"
mutual
def wt : Sh → Int
  | .one _ => 1
  | .row ps => wts ps
  | .either ps => wts ps
  | .many p => wt p
  | .times p _ hi => hi * wt p
def wts : List Sh → Int
  | [] => 0
  | p :: ps => wt p + wts ps
end
theorem wts_sum (ps : List Sh) : wts ps = (ps.map wt).sum := by
  induction ps with
  | nil => rfl
  | cons p ps ih => rw [wts, ih]; rfl
noncomputable def F_inner : SF := gcF (bodyR b_inner 1)
noncomputable def F_weight : Nat → SF
  | 0 => fun _ _ => .no
  | n + 1 => gcF (bodyR (b_weight F_inner (F_weight n)) 2)
theorem bind_t1 {fe : SE} {rest : Sd} {x : D} {h : Hd} {r : R D} (e : fe (some x :: rest) h = r) : bindT t1 fe rest x h = r := e
theorem weight_ok : ∀ (n : Nat) (sh : Sh) (h : Hd), good n sh → F_weight n [toD sh] h = .ok (.int (wt sh)) h
  | 0, _, _, g => g.elim
  | n + 1, sh, h, g => by
    obtain ⟨k6, gk⟩ := good_kids g
    have ei : ∀ h', F_inner [toD sh] h' = .ok (.tup ((kids sh).map toD)) h' := fun h' => inner_ok sh h' g
    have mp : mapR (fun _ => True) (bindT t1 (sA (sN 1 (F_weight n)) (sCons (sV 0) sNil)) (frs' [] (startD 2 [toD sh]))) ((kids sh).map toD) h = .ok ((kids sh).map fun p => D.int (wt p)) h := by
      have go : ∀ ps : List Sh, (∀ p ∈ ps, good n p) → mapR (fun _ => True) (bindT t1 (sA (sN 1 (F_weight n)) (sCons (sV 0) sNil)) (frs' [] (startD 2 [toD sh]))) (ps.map toD) h = .ok (ps.map fun p => D.int (wt p)) h := by
        intro ps hp
        induction ps with
        | nil => simp [mapR]
        | cons p ps ih =>
          rw [List.map_cons, mapR, if_pos True.intro]
          rw [show bindT t1 (sA (sN 1 (F_weight n)) (sCons (sV 0) sNil)) (frs' [] (startD 2 [toD sh])) (toD p) h = .ok (.int (wt p)) h from ?_]
          · show (mapR _ _ _ _).bind _ = _
            rw [ih fun q hq => hp q (List.mem_cons_of_mem _ hq)]; rfl
          · apply bind_t1
            have := weight_ok n p h (hp p (List.mem_cons_self ..))
            walk_at "ev"
      exact go _ gk
    have e1 : ∀ τ, τ = startD 2 [toD sh] → sA gSum (sCons (sComp (sIt (sA (sN 1 F_inner) (sCons (sV 0) sNil))) t1 (sA (sN 1 (F_weight n)) (sCons (sV 0) sNil)) []) sNil) τ h = .ok (.int (((kids sh).map wt).sum)) (h ++ [.lst ((kids sh).map fun p => D.int (wt p))]) := fun τ eτ => by
      subst eτ
      apply e_a
      · apply e_cons
        · apply e_comp
          · apply e_it
            · apply e_a
              · walk_at "ev"
              · exact e_call rfl (ei h)
            · exact rfl
          · show ((kids sh).map toD).length ≤ 16777216
            rw [List.length_map]; omega
          · exact mp
        · exact e_nil
      · have : (h ++ [O.lst ((kids sh).map fun p => D.int (wt p))])[h.length]? = some (.lst ((kids sh).map fun p => D.int (wt p))) := by simp
        have i2 : intsD ((kids sh).map fun p => D.int (wt p)) = some ((kids sh).map wt) := by
          have := intsD_map ((kids sh).map wt)
          rwa [List.map_map] at this
        simp only [gSum, this, i2]
    cases sh with
    | one s =>
      apply gc_same
      apply body_rt
      unfold b_weight
      simp only [toD, wt]
      walk_at "st"
    | row ps =>
      refine gc_pure (g := [.lst ((kids (.row ps)).map fun p => D.int (wt p))]) ?_ (.inl (by simp [clo]))
      apply body_rt
      unfold b_weight
      have e1 := e1 _ rfl
      rw [show wt (.row ps) = ((kids (.row ps)).map wt).sum by simp only [wt, kids, wts_sum]]
      simp only [toD] at e1 ⊢
      apply t_seq
      · walk_at "st"
      · apply t_seq
        · apply t_set; exact e1
        · walk_at "st"
    | either ps =>
      refine gc_pure (g := [.lst ((kids (.either ps)).map fun p => D.int (wt p))]) ?_ (.inl (by simp [clo]))
      apply body_rt
      unfold b_weight
      have e1 := e1 _ rfl
      rw [show wt (.either ps) = ((kids (.either ps)).map wt).sum by simp only [wt, kids, wts_sum]]
      simp only [toD] at e1 ⊢
      apply t_seq
      · walk_at "st"
      · apply t_seq
        · apply t_set; exact e1
        · walk_at "st"
    | many p =>
      refine gc_pure (g := [.lst ((kids (.many p)).map fun p => D.int (wt p))]) ?_ (.inl (by simp [clo]))
      apply body_rt
      unfold b_weight
      have e1 := e1 _ rfl
      rw [show wt (.many p) = ((kids (.many p)).map wt).sum by simp [wt, kids]]
      simp only [toD] at e1 ⊢
      apply t_seq
      · walk_at "st"
      · apply t_seq
        · apply t_set; exact e1
        · walk_at "st"
    | times p lo hi =>
      refine gc_pure (g := [.lst ((kids (.times p lo hi)).map fun p => D.int (wt p))]) ?_ (.inl (by simp [clo]))
      apply body_rt
      unfold b_weight
      have e1 := e1 _ rfl
      rw [show wt (.times p lo hi) = hi * ((kids (.times p lo hi)).map wt).sum by simp [wt, kids]]
      simp only [toD] at e1 ⊢
      have cm : ∀ z, CMul hi z := fun z => .inl ⟨by have := g.1; omega, by have := g.1; omega⟩
      apply t_seq
      · walk_at "st"
      · apply t_seq
        · apply t_set; exact e1
        · walk_at "st"
mutual
def parts : Sh → List Sh
  | .one s => [.one s]
  | .row ps => .row ps :: partsL ps
  | .either ps => .either ps :: partsL ps
  | .many p => .many p :: (parts p ++ [])
  | .times p lo hi => .times p lo hi :: (parts p ++ [])
def partsL : List Sh → List Sh
  | [] => []
  | p :: ps => parts p ++ partsL ps
end
theorem parts_eq (sh : Sh) : parts sh = sh :: partsL (kids sh) := by
  cases sh <;> simp [parts, partsL, kids]
theorem partsL_app (xs ys : List Sh) : partsL (xs ++ ys) = partsL xs ++ partsL ys := by
  induction xs with
  | nil => rfl
  | cons x xs ih => simp [partsL, ih]
theorem partsL_len {B : Nat} : ∀ {ps : List Sh}, (∀ p ∈ ps, (parts p).length ≤ B) → (partsL ps).length ≤ ps.length * B
  | [], _ => by simp [partsL]
  | p :: ps, h => by
    have := partsL_len (ps := ps) fun q hq => h q (List.mem_cons_of_mem _ hq)
    have := h p (List.mem_cons_self ..)
    rw [partsL, List.length_append, List.length_cons, Nat.add_mul]
    omega
theorem parts_len : ∀ {n : Nat} {sh : Sh}, good n sh → (parts sh).length ≤ 7 ^ n
  | 0, _, g => g.elim
  | n + 1, sh, g => by
    obtain ⟨k6, gk⟩ := good_kids g
    have := partsL_len (B := 7 ^ n) fun p hp => parts_len (gk p hp)
    have h6 : (kids sh).length * 7 ^ n ≤ 6 * 7 ^ n := Nat.mul_le_mul_right _ k6
    have h1 : 1 ≤ 7 ^ n := Nat.one_le_pow _ _ (by decide)
    rw [parts_eq, List.length_cons, Nat.pow_succ]
    omega
theorem pow_line {n : Nat} (h : n ≤ 8) : 7 ^ n ≤ 5764801 := Nat.le_trans (Nat.pow_le_pow_right (by decide) h) (by decide)
theorem parts_good : ∀ {n : Nat} {sh : Sh}, good n sh → ∀ p ∈ parts sh, good n p
  | 0, _, g => g.elim
  | n + 1, sh, g => fun p hp => by
    obtain ⟨k6, gk⟩ := good_kids g
    rw [parts_eq] at hp
    rcases List.mem_cons.mp hp with rfl | hp
    · exact g
    · have : ∀ ps : List Sh, (∀ q ∈ ps, good n q) → p ∈ partsL ps → good (n + 1) p := by
        intro ps
        induction ps with
        | nil => intro _ h; simp [partsL] at h
        | cons q qs ih =>
          intro hq h
          rw [partsL] at h
          rcases List.mem_append.mp h with h | h
          · exact good_up (parts_good (hq q (List.mem_cons_self ..)) p h)
          · exact ih (fun r hr => hq r (List.mem_cons_of_mem _ hr)) h
      exact this _ gk hp
theorem parts_cut : ∀ {n : Nat} {sh : Sh}, good n sh → ∀ (i : Nat) (p : Sh), (parts sh)[i]? = some p → ((parts sh).drop i).take (parts p).length = parts p
  | 0, _, g => g.elim
  | n + 1, sh, g => fun i p hp => by
    obtain ⟨k6, gk⟩ := good_kids g
    have L : ∀ ps : List Sh, (∀ q ∈ ps, good n q) → ∀ (i : Nat), (partsL ps)[i]? = some p → ((partsL ps).drop i).take (parts p).length = parts p := by
      intro ps
      induction ps with
      | nil => intro _ i h; simp [partsL] at h
      | cons q qs ih =>
        intro hq i h
        rw [partsL] at h ⊢
        by_cases hi : i < (parts q).length
        · rw [List.getElem?_append_left hi] at h
          have e := parts_cut (hq q (List.mem_cons_self ..)) i p h
          have l : (parts p).length ≤ ((parts q).drop i).length := by
            have := congrArg List.length e
            rw [List.length_take] at this; omega
          rw [List.drop_append_of_le_length (by omega), List.take_append_of_le_length l]
          exact e
        · rw [List.getElem?_append_right (by omega)] at h
          rw [List.drop_append, List.drop_eq_nil_of_le (by omega), List.nil_append]
          exact ih (fun r hr => hq r (List.mem_cons_of_mem _ hr)) _ h
    cases i with
    | zero =>
      rw [parts_eq] at hp
      simp at hp
      subst hp
      simp
    | succ i =>
      rw [parts_eq sh] at hp ⊢
      rw [List.getElem?_cons_succ] at hp
      rw [List.drop_succ_cons]
      exact L _ gk i hp
noncomputable def F_parts_of : Nat → SF
  | 0 => fun _ _ => .no
  | n + 1 => gcF (bodyR (b_parts_of F_inner (F_parts_of n)) 3)
theorem forS {ck : Hd → Prop} {g : SG} {b : SS} {ps : List Sh} (I : List Sh → Sd → Hd → Prop) (c : ∀ pre τ h, I pre τ h → ck h)
    (st : ∀ pre p post τ h, ps = pre ++ p :: post → I pre τ h → ∃ τ1 h1, g (toD p) τ h = .nx τ1 h1 ∧ ∃ τ2 h2, b τ1 h1 = .nx τ2 h2 ∧ I (pre ++ [p]) τ2 h2) {τ : Sd} {h : Hd} (i0 : I [] τ h) : ∃ τ' h', forL ck g b (ps.map toD) τ h = .nx τ' h' ∧ I ps τ' h' := by
  have := forL_all (ck := ck) (g := g) (b := b) (ps.map toD) (fun pre τ h => ∃ q post, pre = q.map toD ∧ ps = q ++ post ∧ I q τ h) (fun pre τ h ⟨q, _, _, _, i⟩ => c q τ h i) (fun pre x post τ h e ⟨q, r, e1, e2, i⟩ => by
    subst e1 e2
    rw [List.map_append, List.append_cancel_left_eq] at e
    cases r with
    | nil => cases e
    | cons p r =>
      rw [List.map_cons] at e
      injection e with e3 e4
      subst e3
      obtain ⟨τ1, h1, a1, τ2, h2, a2, a3⟩ := st q p r τ h rfl i
      exact ⟨τ1, h1, a1, τ2, h2, a2, q ++ [p], r, by simp, by simp, a3⟩) (ps.map toD) [] τ h rfl ⟨[], ps, rfl, rfl, i0⟩
  obtain ⟨τ', h', e, q, r, e1, e2, i⟩ := this
  refine ⟨τ', h', e, ?_⟩
  have : r = [] := by
    have l := congrArg List.length e1
    rw [List.length_map, List.length_map, e2, List.length_append] at l
    exact List.eq_nil_of_length_eq_zero (by omega)
  subst this
  rw [List.append_nil] at e2
  rw [e2]; exact i
theorem parts_of_ok : ∀ (n : Nat) (sh : Sh) (h : Hd), n ≤ 8 → good n sh → F_parts_of n [toD sh] h = .ok (.tup ((parts sh).map toD)) h
  | 0, _, _, _, g => g.elim
  | n + 1, sh, h, n8, g => by
    obtain ⟨k6, gk⟩ := good_kids g
    have ei : ∀ h', F_inner [toD sh] h' = .ok (.tup ((kids sh).map toD)) h' := fun h' => inner_ok sh h' g
    have pl := parts_len g
    have pw := pow_line n8
    have lo := forS (ck := fun _ => True) (g := kN 2) (b := sDrop (sML gExt (sV 1) (sCons (sA (sN 1 (F_parts_of n)) (sCons (sV 2) sNil)) sNil))) (ps := kids sh)
      (fun pre τ h' => ∃ t2, τ = [some (toD sh), some (.ref h.length), t2] ∧ h' = h ++ [.lst (toD sh :: (partsL pre).map toD)]) (fun _ _ _ _ => True.intro) ?_ (τ := [some (toD sh), some (.ref h.length), none]) (h := h ++ [.lst [toD sh]]) ⟨none, rfl, rfl⟩
    · obtain ⟨τ', h', e, t2, rfl, rfl⟩ := lo
      refine gc_pure (g := [.lst (toD sh :: (partsL (kids sh)).map toD)]) ?_ (.inl ?_)
      · apply body_rt
        unfold b_parts_of
        apply t_seq
        · apply t_set; walk_at "ev"
        · apply t_seq
          · apply t_for
            · apply e_it
              · apply e_a
                · walk_at "ev"
                · exact e_call rfl (ei _)
              · exact rfl
            · exact e
          · apply t_ret2
            · apply e_a
              · walk_at "ev"
              · have : (h ++ [O.lst (toD sh :: (partsL (kids sh)).map toD)])[h.length]? = some (.lst (toD sh :: (partsL (kids sh)).map toD)) := by simp
                simp only [gTuple, seqD, this]
                exact rfl
            · rw [parts_eq, List.map_cons]
            · rfl
      · simp only [clo]; exact clos_toD _ (parts_good g)
    · rintro pre p post τ h' e ⟨t2, rfl, rfl⟩
      have gp : good n p := gk p (by rw [e]; simp)
      have ih := parts_of_ok n p (h ++ [.lst (toD sh :: (partsL pre).map toD)]) (by omega) gp
      refine ⟨_, _, rfl, [some (toD sh), some (.ref h.length), some (toD p)], h ++ [.lst (toD sh :: (partsL (pre ++ [p])).map toD)], ?_, _, rfl, rfl⟩
      have hx : (h ++ [O.lst (toD sh :: (partsL pre).map toD)])[h.length]? = some (.lst (toD sh :: (partsL pre).map toD)) := by simp
      have hl : (toD sh :: (partsL pre).map toD).length + ((parts p).map toD).length ≤ LINE := by
        have l1 := congrArg (fun l => (partsL l).length) e
        simp only [partsL_app, partsL, List.length_append] at l1
        rw [parts_eq, List.length_cons] at pl
        simp only [List.length_cons, List.length_map]
        show _ ≤ 16777216
        omega
      rw [sDrop, sML]
      rw [show sV 1 ([some (toD sh), some (.ref h.length), t2].set 2 (some (toD p))) (h ++ [O.lst (toD sh :: (partsL pre).map toD)]) = .ok (.ref h.length) (h ++ [O.lst (toD sh :: (partsL pre).map toD)]) from rfl]
      show R.fl (if isL (.ref h.length) (h ++ [O.lst (toD sh :: (partsL pre).map toD)]) = true then _ else _) _ = _
      rw [if_pos (by simp only [isL, hx])]
      rw [show sCons (sA (sN 1 (F_parts_of n)) (sCons (sV 2) sNil)) sNil ([some (toD sh), some (.ref h.length), t2].set 2 (some (toD p))) (h ++ [O.lst (toD sh :: (partsL pre).map toD)]) = .ok [.tup ((parts p).map toD)] (h ++ [O.lst (toD sh :: (partsL pre).map toD)]) from by
        apply e_cons
        · apply e_a
          · walk_at "ev"
          · exact e_call rfl ih
        · exact e_nil]
      show R.fl (gExt (.ref h.length) [.tup ((parts p).map toD)] _) _ = _
      simp only [gExt, hx, if_pos hl]
      show Fl.nx _ _ = _
      rw [List.set_append_right _ _ (Nat.le_refl _)]
      simp [partsL_app, partsL]
end SHF
set_option Elab.async false
set_option linter.all false
set_option maxRecDepth 100000
set_option maxHeartbeats 4000000
namespace SHF
open PySem PySem.Spec L2 MI PEN
open SHP (Sh)
local macro_rules | `(tactic| walk_at "eq") => `(tactic| first | exact rfl | (simp only [List.set_cons_zero, List.set_cons_succ, List.set_set, *] <;> exact rfl))
local macro_rules | `(tactic| walk_at "g") => `(tactic| first | exact rfl | (simp only [gIx, seqD, atI_0, atI_1, atI_2, atI_3, gGt, gGe, gLt, gLe, gAdd, MI.gSub, gMod, gDiv, gPow, gAbs, gInt, gLen, gMax2, gMin2, MI.gTup, MI.gLst, tru, hEq, hNe, pur, eqD, gIs, gIsNot, isNon, gNeg, gIAdd, gMul, List.length_map, *, ite_true, ite_false, if_true, if_false, reduceIte, decide_true, decide_false, and_self, and_true, true_and, Bool.true_eq_false, Nat.reduceLeDiff, List.length_cons, List.length_nil, Nat.reduceAdd, Int.reduceLE, Int.reduceLT, ne_eq, not_false_eq_true, not_true_eq_false] <;> exact rfl) | assumption)
local macro_rules | `(tactic| walk_at "p") => `(tactic| first | exact rfl | (simp only [put, *, List.length_cons, List.length_nil, Nat.reduceAdd, ix31, ix32, ix30, ix10] <;> exact rfl))
local macro_rules | `(tactic| walk_at "ev") => `(tactic| first
  | (with_reducible exact e_c)
  | ((with_reducible apply e_v); exact rfl)
  | (with_reducible exact e_nil)
  | (with_reducible exact e_oN)
  | ((with_reducible apply e_2); walk_at "ev"; walk_at "ev"; walk_at "g")
  | ((with_reducible apply e_1); walk_at "ev"; walk_at "g")
  | ((with_reducible apply e_a); walk_at "ev"; first | ((with_reducible apply e_call); exact rfl; first | assumption | walk_at "g") | walk_at "g")
  | ((with_reducible apply e_cons); walk_at "ev"; walk_at "ev")
  | ((with_reducible apply e_T); walk_at "ev")
  | ((with_reducible apply e_not); walk_at "ev")
  | ((with_reducible apply e_tru); walk_at "ev"; walk_at "g")
  | ((with_reducible apply e_oS); walk_at "ev")
  | ((with_reducible apply e_sl); walk_at "ev"; walk_at "ev"; walk_at "ev"; walk_at "g")
  | ((with_reducible apply e_notV); walk_at "ev")
  | ((with_reducible apply e_andF); walk_at "ev")
  | ((with_reducible apply e_andT); walk_at "ev"; walk_at "ev")
  | ((with_reducible apply e_orT); walk_at "ev")
  | ((with_reducible apply e_orF); walk_at "ev"; walk_at "ev")
  | ((with_reducible apply e_andVF); walk_at "ev")
  | ((with_reducible apply e_andVT); walk_at "ev"; walk_at "ev")
  | ((with_reducible apply e_orVT); walk_at "ev")
  | ((with_reducible apply e_orVF); walk_at "ev"; walk_at "ev")
  | ((with_reducible apply e_ifT); walk_at "ev"; walk_at "ev")
  | ((with_reducible apply e_ifF); walk_at "ev"; walk_at "ev"))
local macro_rules | `(tactic| walk_at "st") => `(tactic| first
  | (with_reducible exact t_nx)
  | ((with_reducible apply t_set2); walk_at "ev"; walk_at "eq"; walk_at "eq")
  | ((with_reducible apply t_ret2); walk_at "ev"; walk_at "eq"; walk_at "eq")
  | ((with_reducible apply t_drop); walk_at "ev")
  | ((with_reducible apply t_put); walk_at "ev"; walk_at "ev"; walk_at "ev"; walk_at "p")
  | ((with_reducible apply t_ifF); walk_at "ev"; walk_at "st")
  | ((with_reducible apply t_ifT); walk_at "ev"; walk_at "st")
  | ((with_reducible apply t_seq); walk_at "st"; walk_at "st")
  | ((with_reducible apply t_seqR); walk_at "st"))
theorem gc_keep {F : SF} {ds : List D} {h h1 : Hd} {r : Nat} (e : F ds h = .ok (.ref r) h1) (l : h.length ≤ r) (m : D.ref r ∉ ds) : gcF F ds h = .ok (.ref r) h1 := by
  unfold gcF
  rw [e]
  dsimp only
  rw [if_neg]
  rintro ⟨_, z | z, _⟩
  · simp only [clo] at z; omega
  · exact m z
theorem toD_tup (sh : Sh) : ∃ xs, toD sh = .tup xs := by cases sh <;> exact ⟨_, rfl⟩
theorem ref_toD (r : Nat) (sh : Sh) : D.ref r ≠ toD sh := by
  obtain ⟨xs, e⟩ := toD_tup sh
  rw [e]; intro z; cases z
theorem add_lists {r j : Nat} {h : Hd} {xs ys : List D} (e1 : h[r]? = some (.lst xs)) (e2 : h[j]? = some (.lst ys)) (l : xs.length + ys.length ≤ LINE) : gAdd (.ref r) (.ref j) h = .ok (.ref h.length) (h ++ [.lst (xs ++ ys)]) := by
  simp only [gAdd, e1, e2, if_pos l]
theorem get_left {h g : Hd} {i : Nat} {o : O} (e : h[i]? = some o) : (h ++ g)[i]? = some o := by
  have : i < h.length := (List.getElem?_eq_some_iff.mp e).1
  rw [List.getElem?_append_left this]; exact e
theorem get_last {h : Hd} {o : O} : (h ++ [o])[h.length]? = some o := by simp
def NewL (h : Hd) (r : R D) (xs : List D) : Prop := ∃ (a : Nat) (g : Hd), r = .ok (.ref a) (h ++ g) ∧ h.length ≤ a ∧ (h ++ g)[a]? = some (.lst xs)
noncomputable def F_law_parts : Nat → SF
  | 0 => fun _ _ => .no
  | n + 1 => gcF (bodyR (b_law_parts F_inner (F_law_parts n)) 3)
theorem law_parts_ok : ∀ (n : Nat) (sh : Sh) (h : Hd), n ≤ 8 → good n sh → NewL h (F_law_parts n [toD sh] h) ((parts sh).map toD)
  | 0, _, _, _, g => g.elim
  | n + 1, sh, h, n8, g => by
    obtain ⟨k6, gk⟩ := good_kids g
    have ei : ∀ h', F_inner [toD sh] h' = .ok (.tup ((kids sh).map toD)) h' := fun h' => inner_ok sh h' g
    have pl := parts_len g
    have pw := pow_line n8
    have lo := forS (ck := fun _ => True) (g := kN 2) (b := sSet 1 (s2 gAdd (sV 1) (sA (sN 1 (F_law_parts n)) (sCons (sV 2) sNil)))) (ps := kids sh)
      (fun pre τ h' => ∃ t2 a g, τ = [some (toD sh), some (.ref a), t2] ∧ h' = h ++ g ∧ h.length ≤ a ∧ h'[a]? = some (.lst (toD sh :: (partsL pre).map toD))) (fun _ _ _ _ => True.intro) ?_ (τ := [some (toD sh), some (.ref h.length), none]) (h := h ++ [.lst [toD sh]]) ⟨none, h.length, _, rfl, rfl, Nat.le_refl _, get_last⟩
    · obtain ⟨τ', h', e, t2, a, g, rfl, rfl, la, ea⟩ := lo
      refine ⟨a, g, ?_, la, by rw [parts_eq, List.map_cons]; exact ea⟩
      refine gc_keep ?_ la (by simp [ref_toD])
      apply body_rt
      unfold b_law_parts
      apply t_seq
      · apply t_set; walk_at "ev"
      · apply t_seq
        · apply t_for
          · apply e_it
            · apply e_a
              · walk_at "ev"
              · exact e_call rfl (ei _)
            · exact rfl
          · exact e
        · walk_at "st"
    · rintro pre p post τ h' e ⟨t2, a, g, rfl, rfl, la, ea⟩
      have gp : good n p := gk p (by rw [e]; simp)
      obtain ⟨a2, g2, ih, la2, ea2⟩ := law_parts_ok n p (h ++ g) (by omega) gp
      have hl : (toD sh :: (partsL pre).map toD).length + ((parts p).map toD).length ≤ LINE := by
        have l1 := congrArg (fun l => (partsL l).length) e
        simp only [partsL_app, partsL, List.length_append] at l1
        rw [parts_eq, List.length_cons] at pl
        simp only [List.length_cons, List.length_map]
        show _ ≤ 16777216
        omega
      refine ⟨_, _, rfl, [some (toD sh), some (.ref (h ++ g ++ g2).length), some (toD p)], h ++ g ++ g2 ++ [.lst ((toD sh :: (partsL pre).map toD) ++ (parts p).map toD)], ?_, _, _, g ++ g2 ++ [.lst ((toD sh :: (partsL pre).map toD) ++ (parts p).map toD)], rfl, by simp, by simp, by rw [get_last]; simp [partsL_app, partsL]⟩
      apply t_set2
      · apply e_2
        · apply e_v; exact rfl
        · apply e_a
          · walk_at "ev"
          · exact e_call rfl ih
        · exact add_lists (get_left ea) ea2 hl
      · exact rfl
      · exact rfl
mutual
def lw : Sh → Int → List Int
  | .one _, o => [o]
  | .row ps, o => lws ps o
  | .either ps, o => lws ps o
  | .many p, o => lw p o ++ []
  | .times p _ hi, o => lw p (o * hi) ++ []
def lws : List Sh → Int → List Int
  | [], _ => []
  | p :: ps, o => lw p o ++ lws ps o
end
def lo1 : Sh → Int → Int
  | .times _ _ hi, o => o * hi
  | _, o => o
def isOne : Sh → Bool
  | .one _ => true
  | _ => false
theorem lw_eq (sh : Sh) (o : Int) (h : isOne sh = false) : lw sh o = lws (kids sh) (lo1 sh o) := by
  cases sh with
  | one s => cases h
  | _ => simp only [lw, lws, kids, lo1]
theorem lws_app (xs ys : List Sh) (o : Int) : lws (xs ++ ys) o = lws xs o ++ lws ys o := by
  induction xs with
  | nil => rfl
  | cons x xs ih => simp [lws, ih]
theorem lws_sum {o : Int} : ∀ {ps : List Sh}, (∀ p ∈ ps, (lw p o).sum = o * wt p) → (lws ps o).sum = o * wts ps
  | [], _ => by simp [lws, wts]
  | p :: ps, h => by
    rw [lws, wts, List.sum_append_int, h p (List.mem_cons_self ..), lws_sum fun q hq => h q (List.mem_cons_of_mem _ hq), Int.mul_add]
theorem lw_sum : ∀ {n : Nat} {sh : Sh} (o : Int), good n sh → (lw sh o).sum = o * wt sh
  | 0, _, _, g => g.elim
  | n + 1, .one s, o, g => by simp [lw, wt]
  | n + 1, .row ps, o, g => by rw [lw, wt]; exact lws_sum fun p hp => lw_sum o (g.2 p hp)
  | n + 1, .either ps, o, g => by rw [lw, wt]; exact lws_sum fun p hp => lw_sum o (g.2 p hp)
  | n + 1, .many p, o, g => by
    rw [lw, wt, List.append_nil]; exact lw_sum o (n := n) g
  | n + 1, .times p l hi, o, g => by
    rw [lw, wt, List.append_nil, lw_sum _ g.2, Int.mul_assoc]
theorem lws_len {B : Nat} {o : Int} : ∀ {ps : List Sh}, (∀ p ∈ ps, (lw p o).length ≤ B) → (lws ps o).length ≤ ps.length * B
  | [], _ => by simp [lws]
  | p :: ps, h => by
    have := lws_len (ps := ps) fun q hq => h q (List.mem_cons_of_mem _ hq)
    have := h p (List.mem_cons_self ..)
    rw [lws, List.length_append, List.length_cons, Nat.add_mul]
    omega
theorem lw_len : ∀ {n : Nat} {sh : Sh} (o : Int), good n sh → (lw sh o).length ≤ 7 ^ n
  | 0, _, _, g => g.elim
  | n + 1, sh, o, g => by
    obtain ⟨k6, gk⟩ := good_kids g
    have h1 : 1 ≤ 7 ^ n := Nat.one_le_pow _ _ (by decide)
    cases hb : isOne sh with
    | true =>
      cases sh with
      | one s => simp only [lw, List.length_cons, List.length_nil, Nat.pow_succ]; omega
      | _ => cases hb
    | false =>
      have := lws_len (B := 7 ^ n) (o := lo1 sh o) fun p hp => lw_len _ (gk p hp)
      have h6 : (kids sh).length * 7 ^ n ≤ 6 * 7 ^ n := Nat.mul_le_mul_right _ k6
      rw [lw_eq sh o hb, Nat.pow_succ]
      omega
noncomputable def F_law_weights : Nat → SF
  | 0 => fun _ _ => .no
  | n + 1 => gcF (bodyR (b_law_weights F_inner (F_law_weights n)) 4)
theorem law_weights_ok : ∀ (n : Nat) (sh : Sh) (o : Int) (h : Hd), n ≤ 8 → good n sh → NewL h (F_law_weights n [toD sh, .int o] h) ((lw sh o).map D.int)
  | 0, _, _, _, _, g => g.elim
  | n + 1, sh, o, h, n8, g => by
    obtain ⟨k6, gk⟩ := good_kids g
    have ei : ∀ h', F_inner [toD sh] h' = .ok (.tup ((kids sh).map toD)) h' := fun h' => inner_ok sh h' g
    have pl := lw_len o g
    have pw := pow_line n8
    cases hb : isOne sh with
    | true =>
      cases sh with
      | one s =>
        refine ⟨h.length, [.lst [.int o]], ?_, Nat.le_refl _, get_last⟩
        refine gc_keep ?_ (Nat.le_refl _) (by simp [ref_toD])
        apply body_rt
        unfold b_law_weights
        simp only [toD]
        walk_at "st"
      | _ => cases hb
    | false =>
      have f1 : (sIf (sT (s2 hEq (s2 gIx (sV 0) (sC (.int 0))) (sC (.str "one")))) (sRet (sA gLst (sCons (sV 1) sNil))) sNx) [some (toD sh), some (.int o), none, none] h = .nx [some (toD sh), some (.int o), none, none] h := by
        cases sh with
        | one s => cases hb
        | row ps => simp only [toD]; walk_at "st"
        | either ps => simp only [toD]; walk_at "st"
        | many p => simp only [toD]; walk_at "st"
        | times p l hi => simp only [toD]; walk_at "st"
      have f2 : (sIf (sT (s2 hEq (s2 gIx (sV 0) (sC (.int 0))) (sC (.str "times")))) (sSet 1 (s2 gMul (sV 1) (s2 gIx (sV 0) (sC (.int 3))))) sNx) [some (toD sh), some (.int o), none, none] h = .nx [some (toD sh), some (.int (lo1 sh o)), none, none] h := by
        cases sh with
        | one s => cases hb
        | row ps => simp only [toD, lo1]; walk_at "st"
        | either ps => simp only [toD, lo1]; walk_at "st"
        | many p => simp only [toD, lo1]; walk_at "st"
        | times p l hi =>
          have cm : CMul o hi := .inr ⟨by have := g.1; omega, by have := g.1; omega⟩
          simp only [toD, lo1]; walk_at "st"
      have lo := forS (ck := fun _ => True) (g := kN 3) (b := sSet 2 (s2 gAdd (sV 2) (sA (sN 2 (F_law_weights n)) (sCons (sV 3) (sCons (sV 1) sNil))))) (ps := kids sh)
        (fun pre τ h' => ∃ t3 a g, τ = [some (toD sh), some (.int (lo1 sh o)), some (.ref a), t3] ∧ h' = h ++ g ∧ h.length ≤ a ∧ h'[a]? = some (.lst ((lws pre (lo1 sh o)).map D.int))) (fun _ _ _ _ => True.intro) ?_ (τ := [some (toD sh), some (.int (lo1 sh o)), some (.ref h.length), none]) (h := h ++ [.lst []]) ⟨none, h.length, _, rfl, rfl, Nat.le_refl _, get_last⟩
      · obtain ⟨τ', h', e, t2, a, g, rfl, rfl, la, ea⟩ := lo
        refine ⟨a, g, ?_, la, by rw [lw_eq sh o hb]; exact ea⟩
        refine gc_keep ?_ la (by simp [ref_toD])
        apply body_rt
        unfold b_law_weights
        apply t_seq
        · exact f1
        · apply t_seq
          · exact f2
          · apply t_seq
            · apply t_set; walk_at "ev"
            · apply t_seq
              · apply t_for
                · apply e_it
                  · apply e_a
                    · walk_at "ev"
                    · exact e_call rfl (ei _)
                  · exact rfl
                · exact e
              · walk_at "st"
      · rintro pre p post τ h' e ⟨t2, a, g, rfl, rfl, la, ea⟩
        have gp : good n p := gk p (by rw [e]; simp)
        obtain ⟨a2, g2, ih, la2, ea2⟩ := law_weights_ok n p (lo1 sh o) (h ++ g) (by omega) gp
        have hl : ((lws pre (lo1 sh o)).map D.int).length + ((lw p (lo1 sh o)).map D.int).length ≤ LINE := by
          have l1 := congrArg (fun l => (lws l (lo1 sh o)).length) e
          simp only [lws_app, lws, List.length_append] at l1
          rw [lw_eq sh o hb] at pl
          simp only [List.length_map]
          show _ ≤ 16777216
          omega
        refine ⟨_, _, rfl, [some (toD sh), some (.int (lo1 sh o)), some (.ref (h ++ g ++ g2).length), some (toD p)], h ++ g ++ g2 ++ [.lst ((lws pre (lo1 sh o)).map D.int ++ (lw p (lo1 sh o)).map D.int)], ?_, _, _, g ++ g2 ++ [.lst ((lws pre (lo1 sh o)).map D.int ++ (lw p (lo1 sh o)).map D.int)], rfl, by simp, by simp, by rw [get_last]; simp [lws_app, lws]⟩
        apply t_set2
        · apply e_2
          · apply e_v; exact rfl
          · apply e_a
            · walk_at "ev"
            · exact e_call rfl ih
          · exact add_lists (get_left ea) ea2 hl
        · exact rfl
        · exact rfl
end SHF
set_option Elab.async false
set_option linter.all false
set_option maxRecDepth 100000
set_option maxHeartbeats 4000000
namespace SHF
open PySem PySem.Spec L2 MI PEN
open SHP (Sh)
local macro_rules | `(tactic| walk_at "eq") => `(tactic| first | exact rfl | (simp only [List.set_cons_zero, List.set_cons_succ, List.set_set, *] <;> exact rfl))
local macro_rules | `(tactic| walk_at "g") => `(tactic| first | exact rfl | (simp only [gIx, seqD, atI_0, atI_1, atI_2, atI_3, gGt, gGe, gLt, gLe, gAdd, MI.gSub, gMod, gDiv, gPow, gAbs, gInt, gLen, gMax2, gMin2, MI.gTup, MI.gLst, tru, hEq, hNe, pur, eqD, gIs, gIsNot, isNon, gNeg, gIAdd, gMul, List.length_map, *, ite_true, ite_false, if_true, if_false, reduceIte, decide_true, decide_false, and_self, and_true, true_and, Bool.true_eq_false, Nat.reduceLeDiff, List.length_cons, List.length_nil, Nat.reduceAdd, Int.reduceLE, Int.reduceLT, ne_eq, not_false_eq_true, not_true_eq_false] <;> exact rfl) | assumption)
local macro_rules | `(tactic| walk_at "p") => `(tactic| first | exact rfl | (simp only [put, *, List.length_cons, List.length_nil, Nat.reduceAdd, ix31, ix32, ix30, ix10] <;> exact rfl))
local macro_rules | `(tactic| walk_at "ev") => `(tactic| first
  | (with_reducible exact e_c)
  | ((with_reducible apply e_v); exact rfl)
  | (with_reducible exact e_nil)
  | (with_reducible exact e_oN)
  | ((with_reducible apply e_2); walk_at "ev"; walk_at "ev"; walk_at "g")
  | ((with_reducible apply e_1); walk_at "ev"; walk_at "g")
  | ((with_reducible apply e_a); walk_at "ev"; first | ((with_reducible apply e_call); exact rfl; first | assumption | walk_at "g") | walk_at "g")
  | ((with_reducible apply e_cons); walk_at "ev"; walk_at "ev")
  | ((with_reducible apply e_T); walk_at "ev")
  | ((with_reducible apply e_not); walk_at "ev")
  | ((with_reducible apply e_tru); walk_at "ev"; walk_at "g")
  | ((with_reducible apply e_oS); walk_at "ev")
  | ((with_reducible apply e_sl); walk_at "ev"; walk_at "ev"; walk_at "ev"; walk_at "g")
  | ((with_reducible apply e_notV); walk_at "ev")
  | ((with_reducible apply e_andF); walk_at "ev")
  | ((with_reducible apply e_andT); walk_at "ev"; walk_at "ev")
  | ((with_reducible apply e_orT); walk_at "ev")
  | ((with_reducible apply e_orF); walk_at "ev"; walk_at "ev")
  | ((with_reducible apply e_andVF); walk_at "ev")
  | ((with_reducible apply e_andVT); walk_at "ev"; walk_at "ev")
  | ((with_reducible apply e_orVT); walk_at "ev")
  | ((with_reducible apply e_orVF); walk_at "ev"; walk_at "ev")
  | ((with_reducible apply e_ifT); walk_at "ev"; walk_at "ev")
  | ((with_reducible apply e_ifF); walk_at "ev"; walk_at "ev"))
local macro_rules | `(tactic| walk_at "st") => `(tactic| first
  | (with_reducible exact t_nx)
  | ((with_reducible apply t_set2); walk_at "ev"; walk_at "eq"; walk_at "eq")
  | ((with_reducible apply t_ret2); walk_at "ev"; walk_at "eq"; walk_at "eq")
  | ((with_reducible apply t_drop); walk_at "ev")
  | ((with_reducible apply t_put); walk_at "ev"; walk_at "ev"; walk_at "ev"; walk_at "p")
  | ((with_reducible apply t_ifF); walk_at "ev"; walk_at "st")
  | ((with_reducible apply t_ifT); walk_at "ev"; walk_at "st")
  | ((with_reducible apply t_seq); walk_at "st"; walk_at "st")
  | ((with_reducible apply t_seqR); walk_at "st"))
def nice : Nat → D → Prop
  | 0, _ => False
  | _ + 1, .int _ => True
  | _ + 1, .str _ => True
  | n + 1, .tup xs => ∀ d ∈ xs, nice n d
  | _ + 1, _ => False
theorem nice_up : ∀ {n : Nat} {d : D}, nice n d → nice (n + 1) d
  | 0, _, h => h.elim
  | n + 1, .int _, _ => True.intro
  | n + 1, .str _, _ => True.intro
  | n + 1, .tup xs, h => fun d hd => nice_up (h d hd)
  | n + 1, .non, h => h.elim
  | n + 1, .bl _, h => h.elim
  | n + 1, .ty _, h => h.elim
  | n + 1, .rol _, h => h.elim
  | n + 1, .ref _, h => h.elim
theorem nice_toD : ∀ {n : Nat} {sh : Sh}, good n sh → nice (2 * n) (toD sh)
  | 0, _, h => h.elim
  | n + 1, .one s, _ => by
    intro d hd
    simp only [List.mem_cons, List.not_mem_nil, or_false] at hd
    rcases hd with rfl | rfl <;> exact True.intro
  | n + 1, .row ps, h => by
    intro d hd
    simp only [List.mem_cons, List.not_mem_nil, or_false] at hd
    rcases hd with rfl | rfl
    · exact True.intro
    · intro d hd
      rw [toDs_map] at hd
      obtain ⟨p, hp, rfl⟩ := List.mem_map.mp hd
      exact nice_toD (h.2 p hp)
  | n + 1, .either ps, h => by
    intro d hd
    simp only [List.mem_cons, List.not_mem_nil, or_false] at hd
    rcases hd with rfl | rfl
    · exact True.intro
    · intro d hd
      rw [toDs_map] at hd
      obtain ⟨p, hp, rfl⟩ := List.mem_map.mp hd
      exact nice_toD (h.2 p hp)
  | n + 1, .many p, h => by
    intro d hd
    simp only [List.mem_cons, List.not_mem_nil, or_false] at hd
    rcases hd with rfl | rfl
    · exact True.intro
    · exact nice_up (nice_toD (n := n) h)
  | n + 1, .times p lo hi, h => by
    intro d hd
    simp only [List.mem_cons, List.not_mem_nil, or_false] at hd
    rcases hd with rfl | rfl | rfl | rfl
    · exact True.intro
    · exact nice_up (nice_toD h.2)
    · exact True.intro
    · exact True.intro
noncomputable def F_law_same : Nat → SF
  | 0 => fun _ _ => .no
  | n + 1 => gcF (bodyR (b_law_same (F_law_same n)) 4)
theorem same_ok : ∀ (n : Nat) (d : D) (h : Hd), nice n d → F_law_same n [d, d] h = .ok (.bl true) h
  | 0, _, _, g => g.elim
  | n + 1, .int i, h, _ => by
    apply gc_same
    apply body_rt
    unfold b_law_same
    have q1 : gIsi [.int i, .ty "tuple"] h = .ok (.bl false) h := by rfl
    have q2 : gIsi [.int i, .ty "str"] h = .ok (.bl false) h := by rfl
    have q3 : gIsi [.int i, .ty "int"] h = .ok (.bl true) h := by rfl
    have q4 : gIsi [.int i, .ty "bool"] h = .ok (.bl false) h := by rfl
    have q5 : hEq (.int i) (.int i) h = .ok (.bl true) h := by simp [hEq, pur, eqD]
    apply t_seq
    · walk_at "st"
    · apply t_seq
      · walk_at "st"
      · apply t_ret
        exact e_andVT (e_a (e_cons (e_v rfl) (e_cons e_c e_nil)) q3) (e_andVT (e_notV (b := false) (e_a (e_cons (e_v rfl) (e_cons e_c e_nil)) q4)) (e_2 (e_v rfl) (e_v rfl) q5))
  | n + 1, .str i, h, _ => by
    apply gc_same
    apply body_rt
    unfold b_law_same
    have q1 : gIsi [.str i, .ty "tuple"] h = .ok (.bl false) h := by rfl
    have q2 : gIsi [.str i, .ty "str"] h = .ok (.bl true) h := by rfl
    have q5 : hEq (.str i) (.str i) h = .ok (.bl true) h := by simp [hEq, pur, eqD]
    apply t_seq
    · walk_at "st"
    · apply t_seqR
      apply t_ifT
      · walk_at "ev"
      · apply t_ret
        walk_at "ev"
  | n + 1, .tup xs, h, g => by
    apply gc_same
    apply body_rt
    unfold b_law_same
    have q1 : gIsi [.tup xs, .ty "tuple"] h = .ok (.bl true) h := by rfl
    have q5 : hNe (.int xs.length) (.int xs.length) h = .ok (.bl false) h := by simp [hNe, pur, eqD]
    have all : ∀ y ∈ ((xs.zip xs).map fun p => D.tup [p.1, p.2]), ∃ x, y = .tup [x, x] ∧ nice n x := by
      intro y hy
      obtain ⟨⟨a, b⟩, hp, rfl⟩ := List.mem_map.mp hy
      have zz : ∀ l : List D, (a, b) ∈ l.zip l → a = b ∧ a ∈ l := by
        intro l
        induction l with
        | nil => intro z; simp at z
        | cons c l ih =>
          intro z
          rw [List.zip_cons_cons, List.mem_cons] at z
          rcases z with z | z
          · injection z with z1 z2; subst z1 z2; exact ⟨rfl, List.mem_cons_self ..⟩
          · exact ⟨(ih z).1, List.mem_cons_of_mem _ (ih z).2⟩
      obtain ⟨rfl, ha⟩ := zz xs hp
      exact ⟨a, rfl, g a ha⟩
    have lo := forL_all (ck := fun _ => True ∧ True) (g := kTup 2 (kCons (kN 2) (kCons (kN 3) kNil))) (b := sIf (sNot (sTru (sA (sN 2 (F_law_same n)) (sCons (sV 2) (sCons (sV 3) sNil))))) (sRet (sC (.bl false))) sNx) ((xs.zip xs).map fun p => D.tup [p.1, p.2])
      (fun pre τ h' => ∃ t2 t3, τ = [some (.tup xs), some (.tup xs), t2, t3] ∧ h' = h) (fun _ _ _ _ => ⟨True.intro, True.intro⟩) ?_ _ [] [some (.tup xs), some (.tup xs), none, none] h rfl ⟨none, none, rfl, rfl⟩
    · obtain ⟨τ', h', e, t2, t3, rfl, rfl⟩ := lo
      apply t_seqR
      apply t_ifT
      · walk_at "ev"
      · apply t_seq
        · apply t_ifF
          · exact e_orF (e_not (b := true) (e_tru (e_a (e_cons (e_v rfl) (e_cons e_c e_nil)) q1) rfl)) (e_T (e_2 (e_a (e_cons (e_v rfl) e_nil) rfl) (e_a (e_cons (e_v rfl) e_nil) rfl) q5))
          · exact t_nx
        · apply t_seq
          · apply t_for
            · exact rfl
            · exact e
          · walk_at "st"
    · rintro pre y post τ h' e ⟨t2, t3, rfl, rfl⟩
      obtain ⟨x, rfl, nx⟩ := all y (by rw [e]; simp)
      refine ⟨[some (.tup xs), some (.tup xs), some x, some x], h', rfl, [some (.tup xs), some (.tup xs), some x, some x], h', ?_, _, _, rfl, rfl⟩
      have ih := same_ok n x h' nx
      apply t_ifF
      · exact e_not (b := true) (e_tru (e_a (e_cons (e_v rfl) (e_cons (e_v rfl) e_nil)) (e_call rfl ih)) rfl)
      · exact t_nx
  | n + 1, .non, _, h => h.elim
  | n + 1, .bl _, _, h => h.elim
  | n + 1, .ty _, _, h => h.elim
  | n + 1, .rol _, _, h => h.elim
  | n + 1, .ref _, _, h => h.elim
noncomputable def F_law_right : SF := gcF (bodyR (b_law_right (F_law_parts 6) (F_law_same 13) (F_law_weights 6) (F_parts_of 6) (F_weight 6)) 5)
theorem right_ok (sh : Sh) (h : Hd) (g : good 6 sh) : F_law_right [toD sh] h = .ok (.bl true) h := by
  obtain ⟨a, g1, e1, la, ea⟩ := law_parts_ok 6 sh h (by decide) g
  have pl := parts_len g
  have pw : 7 ^ 6 = 117649 := by decide
  have wt_ok : ∀ (τ : Sd) (h' : Hd), τ[0]? = some (some (toD sh)) → ∃ g2, sA (sN 2 (F_law_same 13)) (sCons (sA (sN 1 (F_weight 6)) (sCons (sV 0) sNil)) (sCons (sA gSum (sCons (sA (sN 2 (F_law_weights 6)) (sCons (sV 0) (sCons (sC (.int 1)) sNil))) sNil)) sNil)) τ h' = .ok (.bl true) (h' ++ g2) := by
    intro τ h' e0
    obtain ⟨a2, g2, e2, la2, ea2⟩ := law_weights_ok 6 sh 1 h' (by decide) g
    refine ⟨g2, ?_⟩
    have sm : gSum [.ref a2] (h' ++ g2) = .ok (.int (wt sh)) (h' ++ g2) := by
      simp only [gSum, ea2, intsD_map, lw_sum 1 g, Int.one_mul]
    exact e_a (e_cons (e_a (e_cons (e_v e0) e_nil) (e_call rfl (weight_ok 6 sh h' g))) (e_cons (e_a (e_cons (e_a (e_cons (e_v e0) (e_cons e_c e_nil)) (e_call rfl e2)) e_nil) sm) e_nil)) (e_call rfl (same_ok 13 (.int (wt sh)) _ True.intro))
  obtain ⟨g2, w1⟩ := wt_ok [some (toD sh), some (.ref a), none, none, none] (h ++ g1) rfl
  have po := fun h' => parts_of_ok 6 sh h' (by decide) g
  have sp : ∀ h', F_law_same 13 [.tup ((parts sh).map toD), .tup ((parts sh).map toD)] h' = .ok (.bl true) h' := fun h' => same_ok 13 _ h' (by
    intro d hd
    obtain ⟨p, hp, rfl⟩ := List.mem_map.mp hd
    exact nice_toD (parts_good g p hp))
  have tp : gTuple [.ref a] (h ++ g1 ++ g2) = .ok (.tup ((parts sh).map toD)) (h ++ g1 ++ g2) := by
    simp only [gTuple, seqD, get_left (g := g2) ea]
  have lo := forL_all (ck := fun _ => True) (g := kN 3) (b := (sSeq (sSet 4 (sA gLen (sCons (sA (sN 1 (F_law_parts 6)) (sCons (s2 gIx (sV 1) (sV 3)) sNil)) sNil)))
   (sIf (sT (s2 hNe (sA (sN 1 (F_parts_of 6)) (sCons (s2 gIx (sV 2) (sV 3)) sNil)) (sSl2 (sV 2) (oS (sV 3)) (oS (s2 gAdd (sV 3) (sV 4)))))) (sRet (sC (.bl false))) sNx))) (rng 0 ((parts sh).length : Int).toNat)
    (fun pre τ h' => ∃ t3 t4 g', τ = [some (toD sh), some (.ref a), some (.tup ((parts sh).map toD)), t3, t4] ∧ h' = h ++ g1 ++ g') (fun _ _ _ _ => True.intro) ?_ _ [] [some (toD sh), some (.ref a), some (.tup ((parts sh).map toD)), none, none] (h ++ g1 ++ g2) rfl ⟨none, none, g2, rfl, rfl⟩
  · obtain ⟨τ', h', e, t3, t4, g3, rfl, rfl⟩ := lo
    obtain ⟨g4, w2⟩ := wt_ok [some (toD sh), some (.ref a), some (.tup ((parts sh).map toD)), t3, t4] (h ++ g1 ++ g3) rfl
    refine gc_pure (g := g1 ++ g3 ++ g4) ?_ (.inl (by simp [clo]))
    apply body_rt
    unfold b_law_right
    apply t_seq
    · apply t_set
      exact e_a (e_cons (e_v rfl) e_nil) (e_call rfl e1)
    · apply t_seq
      · apply t_ifF
        · exact e_not (b := true) (e_tru w1 rfl)
        · exact t_nx
      · apply t_seq
        · apply t_set
          exact e_a (e_cons (e_v rfl) e_nil) (e_call rfl (po _))
        · apply t_seq
          · apply t_ifF
            · exact e_not (b := true) (e_tru (e_a (e_cons (e_v rfl) (e_cons (e_a (e_cons (e_v rfl) e_nil) tp) e_nil)) (e_call rfl (sp _))) rfl)
            · exact t_nx
          · apply t_seq
            · apply t_for
              · apply e_rg1
                · apply e_cons
                  · apply e_a
                    · exact e_cons (e_v rfl) e_nil
                    · simp only [gLen, seqD, get_left (g := g2) ea, List.length_map]; exact rfl
                  · exact e_nil
                · constructor <;> omega
              · exact e
            · apply t_ret2
              · exact w2
              · rfl
              · simp
  · rintro pre x post τ h' e ⟨t3, t4, g3, rfl, rfl⟩
    obtain ⟨i, hi, rfl⟩ : ∃ i, i < (parts sh).length ∧ x = D.int (i : Nat) := by
      have : x ∈ rng 0 ((parts sh).length : Int).toNat := by rw [e]; simp
      simp only [rng, List.mem_map, List.mem_range] at this
      obtain ⟨i, hi, rfl⟩ := this
      exact ⟨i, by omega, by simp⟩
    have hg : (parts sh)[i]? = some (parts sh)[i] := List.getElem?_eq_getElem hi
    generalize (parts sh)[i] = p at hg
    have gp : good 6 p := parts_good g p (List.mem_of_getElem? hg)
    obtain ⟨a5, g5, e5, la5, ea5⟩ := law_parts_ok 6 p (h ++ g1 ++ g3) (by decide) gp
    have at1 : atI ((parts sh).map toD) (i : Nat) = some (toD p) := atI_nat (by rw [List.getElem?_map, hg]; rfl)
    have cut := parts_cut g i p hg
    have cl : cutL ((parts sh).map toD) (some ((i : Nat) : Int)) (some (((i : Nat) : Int) + ((parts p).length : Int))) = (parts p).map toD := by
      have := cutL_ft ((parts sh).map toD) i (i + (parts p).length)
      rw [show (((i + (parts p).length : Nat)) : Int) = ((i : Nat) : Int) + ((parts p).length : Int) by omega] at this
      rw [this, Nat.add_sub_cancel_left, ← List.map_drop, ← List.map_take, cut]
    have pr : pur 60 (.tup ((parts p).map toD)) = true := by
      show (((parts p).map toD).all (pur 59)) = true
      rw [List.all_eq_true]
      intro d hd
      obtain ⟨q, hq, rfl⟩ := List.mem_map.mp hd
      exact pur_up (by decide) (pur_toD (parts_good gp q hq))
    have ne : ∀ h', hNe (.tup ((parts p).map toD)) (.tup ((parts p).map toD)) h' = .ok (.bl false) h' := fun h' => by
      simp only [hNe, pr, eqD_refl _ _ pr, and_self, if_true, Bool.not_true]
    refine ⟨_, _, rfl, [some (toD sh), some (.ref a), some (.tup ((parts sh).map toD)), some (.int (i : Nat)), some (.int ((parts p).length : Nat))], h ++ g1 ++ g3 ++ g5, ?_, _, _, g3 ++ g5, rfl, by simp⟩
    apply t_seq
    · apply t_set
      apply e_a
      · apply e_cons
        · apply e_a
          · apply e_cons
            · apply e_2
              · apply e_v; exact rfl
              · apply e_v; exact rfl
              · simp only [gIx, seqD, get_left (g := g3) ea, at1]; exact rfl
            · exact e_nil
          · exact e_call rfl e5
        · exact e_nil
      · simp only [gLen, seqD, ea5, List.length_map]; exact rfl
    · apply t_ifF
      · apply e_T
        apply e_2
        · apply e_a
          · apply e_cons
            · apply e_2
              · apply e_v; exact rfl
              · apply e_v; exact rfl
              · simp only [gIx, seqD, at1]; exact rfl
            · exact e_nil
          · exact e_call rfl (parts_of_ok 6 p _ (by decide) gp)
        · apply e_sl
          · apply e_v; exact rfl
          · apply e_oS; apply e_v; exact rfl
          · apply e_oS
            apply e_2
            · apply e_v; exact rfl
            · apply e_v; exact rfl
            · exact rfl
          · rw [gSl2_tup, cl]
        · exact ne _
      · exact t_nx
end SHF
set_option Elab.async false
set_option linter.all false
set_option maxRecDepth 100000
set_option maxHeartbeats 4000000
namespace SHF
open PySem PySem.Spec L2 MI PEN
open SHP (Sh)
local macro_rules | `(tactic| walk_at "eq") => `(tactic| first | exact rfl | (simp only [List.set_cons_zero, List.set_cons_succ, List.set_set, *] <;> exact rfl))
local macro_rules | `(tactic| walk_at "g") => `(tactic| first | exact rfl | (simp only [gIx, seqD, atI_0, atI_1, atI_2, atI_3, gGt, gGe, gLt, gLe, gAdd, MI.gSub, gMod, gDiv, gPow, gAbs, gInt, gLen, gMax2, gMin2, MI.gTup, MI.gLst, tru, hEq, hNe, pur, eqD, gIs, gIsNot, isNon, gNeg, gIAdd, gMul, List.length_map, *, ite_true, ite_false, if_true, if_false, reduceIte, decide_true, decide_false, and_self, and_true, true_and, Bool.true_eq_false, Nat.reduceLeDiff, List.length_cons, List.length_nil, Nat.reduceAdd, Int.reduceLE, Int.reduceLT, ne_eq, not_false_eq_true, not_true_eq_false] <;> exact rfl) | assumption)
local macro_rules | `(tactic| walk_at "p") => `(tactic| first | exact rfl | (simp only [put, *, List.length_cons, List.length_nil, Nat.reduceAdd, ix31, ix32, ix30, ix10] <;> exact rfl))
local macro_rules | `(tactic| walk_at "ev") => `(tactic| first
  | (with_reducible exact e_c)
  | ((with_reducible apply e_v); exact rfl)
  | (with_reducible exact e_nil)
  | (with_reducible exact e_oN)
  | ((with_reducible apply e_2); walk_at "ev"; walk_at "ev"; walk_at "g")
  | ((with_reducible apply e_1); walk_at "ev"; walk_at "g")
  | ((with_reducible apply e_a); walk_at "ev"; first | ((with_reducible apply e_call); exact rfl; first | assumption | walk_at "g") | walk_at "g")
  | ((with_reducible apply e_cons); walk_at "ev"; walk_at "ev")
  | ((with_reducible apply e_T); walk_at "ev")
  | ((with_reducible apply e_not); walk_at "ev")
  | ((with_reducible apply e_tru); walk_at "ev"; walk_at "g")
  | ((with_reducible apply e_oS); walk_at "ev")
  | ((with_reducible apply e_sl); walk_at "ev"; walk_at "ev"; walk_at "ev"; walk_at "g")
  | ((with_reducible apply e_notV); walk_at "ev")
  | ((with_reducible apply e_andF); walk_at "ev")
  | ((with_reducible apply e_andT); walk_at "ev"; walk_at "ev")
  | ((with_reducible apply e_orT); walk_at "ev")
  | ((with_reducible apply e_orF); walk_at "ev"; walk_at "ev")
  | ((with_reducible apply e_andVF); walk_at "ev")
  | ((with_reducible apply e_andVT); walk_at "ev"; walk_at "ev")
  | ((with_reducible apply e_orVT); walk_at "ev")
  | ((with_reducible apply e_orVF); walk_at "ev"; walk_at "ev")
  | ((with_reducible apply e_ifT); walk_at "ev"; walk_at "ev")
  | ((with_reducible apply e_ifF); walk_at "ev"; walk_at "ev"))
local macro_rules | `(tactic| walk_at "st") => `(tactic| first
  | (with_reducible exact t_nx)
  | ((with_reducible apply t_set2); walk_at "ev"; walk_at "eq"; walk_at "eq")
  | ((with_reducible apply t_ret2); walk_at "ev"; walk_at "eq"; walk_at "eq")
  | ((with_reducible apply t_drop); walk_at "ev")
  | ((with_reducible apply t_put); walk_at "ev"; walk_at "ev"; walk_at "ev"; walk_at "p")
  | ((with_reducible apply t_ifF); walk_at "ev"; walk_at "st")
  | ((with_reducible apply t_ifT); walk_at "ev"; walk_at "st")
  | ((with_reducible apply t_seq); walk_at "st"; walk_at "st")
  | ((with_reducible apply t_seqR); walk_at "st"))
def Ext (p q : Nat) (h h' : Hd) : Prop := h.length ≤ h'.length ∧ ∀ i, i < h.length → i ≠ p → i ≠ q → h'[i]? = h[i]?
theorem Ext.refl (p q : Nat) (h : Hd) : Ext p q h h := ⟨Nat.le_refl _, fun _ _ _ _ => rfl⟩
theorem Ext.trans {p q : Nat} {h h1 h2 : Hd} (a : Ext p q h h1) (b : Ext p q h1 h2) : Ext p q h h2 := ⟨Nat.le_trans a.1 b.1, fun i l x y => by rw [b.2 i (by have := a.1; omega) x y, a.2 i l x y]⟩
theorem Ext.app (p q : Nat) (h g : Hd) : Ext p q h (h ++ g) := ⟨by simp, fun i l _ _ => List.getElem?_append_left l⟩
theorem Ext.setP {p q : Nat} {h : Hd} {o : O} : Ext p q h (h.set p o) := ⟨by simp, fun i l x y => List.getElem?_set_ne (Ne.symm x)⟩
theorem Ext.setQ {p q : Nat} {h : Hd} {o : O} : Ext p q h (h.set q o) := ⟨by simp, fun i l x y => List.getElem?_set_ne (Ne.symm y)⟩
theorem Pen.app {h g : Hd} {p n : Nat} (P : Pen h p n) : Pen (h ++ g) p n := by
  obtain ⟨q, cells, a, l', h1, h2, r⟩ := P.ex
  exact ⟨q, cells, a, l', get_left h1, get_left h2, r⟩
theorem Pen.setQ {h : Hd} {p q n : Nat} {o : O} (P : Pen h p n) (l : p < q) : Pen (h.set q o) p n := by
  obtain ⟨q', cells, a, l', h1, h2, h3, r⟩ := P.ex
  exact ⟨q', cells, a, l', by rw [List.getElem?_set_ne (by omega)]; exact h1, by rw [List.getElem?_set_ne (by omega)]; exact h2, h3, r⟩
theorem Pen.lt {h : Hd} {p n : Nat} (P : Pen h p n) : p < h.length := by
  obtain ⟨q', cells, a, l', h1, _⟩ := P.ex
  exact (List.getElem?_eq_some_iff.mp h1).1
theorem Pen.take {h : Hd} {p n m : Nat} (P : Pen h p n) (l : p < m) : Pen (h.take m) p n := by
  obtain ⟨q', cells, a, l', h1, h2, h3, r⟩ := P.ex
  exact ⟨q', cells, a, l', by rw [List.getElem?_take, if_pos l]; exact h1, by rw [List.getElem?_take, if_pos (by omega)]; exact h2, h3, r⟩
structure PQ (h : Hd) (p q N : Nat) (k : Int) : Prop where
  pen : Pen h p N
  pu : h[q]? = some (.lst [.int k])
  lt : p < q
theorem PQ.take {F : SF} (hF : TakeOk F) {h : Hd} {p q N : Nat} {k m : Int} (w : PQ h p q N k) (hn : N ≤ 1000000000000) (m0 : 0 < m) (m1 : m < 1073741824) :
    ∃ r h', F [.ref p, .int m] h = .ok (.int r) h' ∧ 0 ≤ r ∧ r < m ∧ PQ h' p q (N + 1) k ∧ Ext p q h h' := by
  obtain ⟨r, o, e, r0, r1, P⟩ := hF h p N m w.pen hn m0 m1
  exact ⟨r, _, e, r0, r1, ⟨P, by rw [List.getElem?_set_ne (by have := w.lt; omega)]; exact w.pu, w.lt⟩, Ext.setP⟩
theorem PQ.some {F : SF} (hF : SomeOk F) {h : Hd} {p q N : Nat} {k : Int} {T : Str} (w : PQ h p q N k) (hn : N ≤ 900000000000) (t1 : 1 ≤ T.length) (t2 : T.length ≤ 1000) :
    ∃ x h', F [.ref p, .str T, .int T.length] h = .ok (.str x) h' ∧ PQ h' p q (N + 1 + T.length) k ∧ Ext p q h h' ∧ 1 ≤ x.length ∧ ∃ rest : List Nat, (x.cps.toList ++ rest).Perm T.cps.toList := by
  obtain ⟨x, o, e, x1, x2, P, pm⟩ := hF h p N T (T.length : Int) w.pen hn (by omega) (Int.le_refl _) t2
  exact ⟨x, _, e, ⟨P, by rw [List.getElem?_set_ne (by have := w.lt; omega)]; exact w.pu, w.lt⟩, Ext.setP, x1, pm⟩
theorem PQ.app {h g : Hd} {p q N : Nat} {k : Int} (w : PQ h p q N k) : PQ (h ++ g) p q N k := ⟨Pen.app w.pen, get_left w.pu, w.lt⟩
theorem PQ.put {h : Hd} {p q N : Nat} {k k' : Int} (w : PQ h p q N k) : PQ (h.set q (.lst [.int k'])) p q N k' := ⟨Pen.setQ w.pen w.lt, List.getElem?_set_self (List.getElem?_eq_some_iff.mp w.pu).1, w.lt⟩
theorem PQ.up {h : Hd} {p q N M : Nat} {k : Int} (w : PQ h p q N k) (l : N ≤ M) : PQ h p q M k := ⟨w.pen.up l, w.pu, w.lt⟩
theorem PQ.gc {F : SF} {ds : List D} {h h1 : Hd} {d : D} {p q N : Nat} {k : Int} (e : F ds h = .ok d h1) (w : PQ h1 p q N k) (x : Ext p q h h1) (lq : q < h.length) (c : clo h.length d) : ∃ h', gcF F ds h = .ok d h' ∧ h'.length = h.length ∧ PQ h' p q N k ∧ Ext p q h h' := by
  have lp : p < h.length := by have := w.lt; omega
  refine ⟨h1.take h.length, ?_, by rw [List.length_take]; exact Nat.min_eq_left x.1, ⟨Pen.take w.pen lp, by rw [List.getElem?_take, if_pos lq]; exact w.pu, w.lt⟩, ⟨by rw [List.length_take]; exact Nat.le_of_eq (Nat.min_eq_left x.1).symm, fun i l a b => by rw [List.getElem?_take, if_pos l]; exact x.2 i l a b⟩⟩
  unfold gcF
  rw [e]
  dsimp only
  rw [if_pos]
  refine ⟨x.1, .inl c, fun i o hi ho => ?_⟩
  by_cases ip : i = p
  · subst ip
    obtain ⟨q', cells, a, l', h1, h2, h3, r⟩ := w.pen.ex
    rw [h1] at ho; injection ho with ho; subst ho
    right
    simp only [cloO, clos, clo]
    exact ⟨by omega, True.intro, True.intro, True.intro⟩
  · by_cases iq : i = q
    · subst iq
      rw [w.pu] at ho; injection ho with ho; subst ho
      right
      simp only [cloO, clos, clo, and_self]
    · left; rw [← x.2 i hi ip iq]; exact ho
def Drawn (T : Str) : Nat → Sh → Prop
  | 0, _ => False
  | _ + 1, .one x => 1 ≤ x.length ∧ ∃ rest : List Nat, (x.cps.toList ++ rest).Perm T.cps.toList
  | n + 1, .row ps => ps.length ≤ 6 ∧ ∀ p ∈ ps, Drawn T n p
  | n + 1, .either ps => (1 ≤ ps.length ∧ ps.length ≤ 6) ∧ ∀ p ∈ ps, Drawn T n p
  | n + 1, .many p => Drawn T n p
  | n + 1, .times p lo hi => (0 ≤ lo ∧ lo ≤ hi ∧ hi ≤ 4) ∧ Drawn T n p
theorem Drawn.good {T : Str} : ∀ {n : Nat} {sh : Sh}, Drawn T n sh → good n sh
  | 0, _, h => h.elim
  | n + 1, .one _, _ => True.intro
  | n + 1, .row ps, h => ⟨h.1, fun p hp => Drawn.good (h.2 p hp)⟩
  | n + 1, .either ps, h => ⟨h.1.2, fun p hp => Drawn.good (h.2 p hp)⟩
  | n + 1, .many p, h => Drawn.good (n := n) h
  | n + 1, .times p lo hi, h => ⟨h.1, Drawn.good h.2⟩
def cost (n : Nat) : Nat := 1000 * 7 ^ n
def ShapeOk (n : Nat) (F : SF) : Prop := ∀ (h : Hd) (p q N : Nat) (k : Int) (T : Str), PQ h p q N k → 0 ≤ k → N + cost n ≤ 800000000000 → 1 ≤ T.length → T.length ≤ 900 →
  ∃ sh h' k', F [.ref p, .ref q, .int n, .str T] h = .ok (toD sh) h' ∧ h'.length = h.length ∧ Drawn T n sh ∧ PQ h' p q (N + cost n) k' ∧ 0 ≤ k' ∧ Ext p q h h' ∧ ((parts sh).length : Int) + k' ≤ 1 + k
def Post (T : Str) (k : Int) (h0 : Hd) (p q n N : Nat) (r : Fl) : Prop := ∃ sh h1 k', r = .rt (toD sh) h1 ∧ Drawn T n sh ∧ PQ h1 p q N k' ∧ 0 ≤ k' ∧ Ext p q h0 h1 ∧ ((parts sh).length : Int) + k' ≤ 1 + k
theorem post_seq {T : Str} {k : Int} {h0 : Hd} {p q n N : Nat} {s s' : SS} {τ τ1 : Sd} {h h1 : Hd} (e : s τ h = .nx τ1 h1) (o : Post T k h0 p q n N (s' τ1 h1)) : Post T k h0 p q n N (sSeq s s' τ h) := by
  rw [t_seq e rfl]; exact o
theorem post_seqR {T : Str} {k : Int} {h0 : Hd} {p q n N : Nat} {s s' : SS} {τ : Sd} {h : Hd} (o : Post T k h0 p q n N (s τ h)) : Post T k h0 p q n N (sSeq s s' τ h) := by
  obtain ⟨sh, h1, k', e, r⟩ := o
  exact ⟨sh, h1, k', t_seqR e, r⟩
theorem post_ifT {T : Str} {k : Int} {h0 : Hd} {p q n N : Nat} {c : ST} {s s' : SS} {τ : Sd} {h h1 : Hd} (e : c τ h = .ok true h1) (o : Post T k h0 p q n N (s τ h1)) : Post T k h0 p q n N (sIf c s s' τ h) := by
  rw [t_ifT e rfl]; exact o
theorem eq_int (i j : Int) (h : Hd) : hEq (.int i) (.int j) h = .ok (.bl (i == j)) h := by simp [hEq, pur, eqD]
theorem lt_yes {i j : Int} {h : Hd} (z : i < j) : gLt (.int i) (.int j) h = .ok (.bl true) h := by simp only [gLt, decide_eq_true z]
theorem lt_no {i j : Int} {h : Hd} (z : ¬ i < j) : gLt (.int i) (.int j) h = .ok (.bl false) h := by simp only [gLt, decide_eq_false z]
theorem gt_yes {i j : Int} {h : Hd} (z : j < i) : gGt (.int i) (.int j) h = .ok (.bl true) h := by simp only [gGt, decide_eq_true z]
theorem gt_no {i j : Int} {h : Hd} (z : ¬ j < i) : gGt (.int i) (.int j) h = .ok (.bl false) h := by simp only [gGt, decide_eq_false z]
noncomputable def F_law_take : SF := gcF (bodyR b_take 7)
noncomputable def F_law_some : SF := gcF (bodyR (b_some F_law_take) 6)
noncomputable def F_law_shape : Nat → SF
  | 0 => fun _ _ => .no
  | m + 1 => gcF (bodyR (b_law_shape (F_law_shape m) F_law_some F_law_take) 9)
theorem shape_body {n : Nat} {G : SF} (hG : n = 0 ∨ ShapeOk n G) {h : Hd} {p q N : Nat} {k : Int} {T : Str} (w : PQ h p q N k) (k0 : 0 ≤ k) (hN : N + cost (n + 1) ≤ 800000000000) (t1' : 1 ≤ T.length) (t2' : T.length ≤ 900) :
    Post T k h p q (n + 1) (N + cost (n + 1)) (b_law_shape G F_law_some F_law_take [some (.ref p), some (.ref q), some (.int ((n + 1 : Nat) : Int)), some (.str T), none, none, none, none, none] h) := by
  have hT : TakeOk F_law_take := take_ok
  have hS : SomeOk F_law_some := some_ok take_ok
  have c1 : 7000 * 7 ^ n = cost (n + 1) := by rw [cost, Nat.pow_succ]; omega
  have c2 : 1000 * 7 ^ n = cost n := rfl
  have c3 : 1 ≤ 7 ^ n := Nat.one_le_pow _ _ (by decide)
  unfold b_law_shape
  obtain ⟨r, h1, e1, r0, r1, w1, x1⟩ := w.take hT (m := 10) (by omega) (by decide) (by decide)
  refine post_seq (t_set (e_a (e_cons (e_v rfl) (e_cons e_c e_nil)) (e_call rfl e1))) ?_
  have road : ∃ r' : Int, 0 ≤ r' ∧ r' < 10 ∧ (sIf (sAnd (sT (s2 hEq (sV 2) (sC (.int 5)))) (sT (s2 gLt (sV 4) (sC (.int 2))))) (sSet 4 (s2 gAdd (sV 4) (sC (.int 4)))) sNx) [some (.ref p), some (.ref q), some (.int ((n + 1 : Nat) : Int)), some (.str T), some (.int r), none, none, none, none] h1 = .nx [some (.ref p), some (.ref q), some (.int ((n + 1 : Nat) : Int)), some (.str T), some (.int r'), none, none, none, none] h1 := by
    cases d5 : (((n + 1 : Nat) : Int) == 5) with
    | false => exact ⟨r, r0, r1, t_ifF (e_andF (e_T (e_2 (e_v rfl) e_c (by rw [eq_int, d5])))) t_nx⟩
    | true =>
      by_cases d2 : r < 2
      · exact ⟨r + 4, by omega, by omega, t_ifT (e_andT (e_T (e_2 (e_v rfl) e_c (by rw [eq_int, d5]))) (e_T (e_2 (e_v rfl) e_c (lt_yes d2)))) (t_set (e_2 (e_v rfl) e_c rfl))⟩
      · exact ⟨r, r0, r1, t_ifF (e_andT (e_T (e_2 (e_v rfl) e_c (by rw [eq_int, d5]))) (e_T (e_2 (e_v rfl) e_c (lt_no d2)))) t_nx⟩
  obtain ⟨r', r0', r1', er⟩ := road
  refine post_seq er ?_
  clear er e1
  have hand : ∃ b h2, (sAnd (sT (s2 hEq (sV 4) (sC (.int 9)))) (sT (s2 hEq (sA (sN 2 F_law_take) (sCons (sV 0) (sCons (sC (.int 2)) sNil))) (sC (.int 0))))) [some (.ref p), some (.ref q), some (.int ((n + 1 : Nat) : Int)), some (.str T), some (.int r'), none, none, none, none] h1 = .ok b h2 ∧ PQ h2 p q (N + 2) k ∧ Ext p q h h2 := by
    cases d9 : (r' == 9) with
    | false => exact ⟨false, h1, e_andF (e_T (e_2 (e_v rfl) e_c (by rw [eq_int, d9]))), w1.up (by omega), x1⟩
    | true =>
      obtain ⟨s, h2, e2, s0, s1, w2, x2⟩ := w1.take hT (m := 2) (by omega) (by decide) (by decide)
      exact ⟨s == 0, h2, e_andT (e_T (e_2 (e_v rfl) e_c (by rw [eq_int, d9]))) (e_T (e_2 (e_a (e_cons (e_v rfl) (e_cons e_c e_nil)) (e_call rfl e2)) e_c (eq_int _ _ _))), w2, x1.trans x2⟩
  obtain ⟨b, h2, eb, w2, x2⟩ := hand
  cases b with
  | true =>
    refine post_seqR (post_ifT eb ?_)
    exact ⟨.row [], h2, k, t_ret (e_a (e_cons e_c (e_cons (e_a e_nil rfl) e_nil)) rfl), ⟨by simp, by simp⟩, w2.up (by omega), k0, x2, by simp [parts, partsL]⟩
  | false =>
  refine post_seq (t_ifF eb t_nx) ?_
  clear eb
  have ix : ∀ {h' : Hd} {N' : Nat} {k' : Int}, PQ h' p q N' k' → gIx (.ref q) (.int 0) h' = .ok (.int k') h' := fun w => by simp only [gIx, seqD, w.pu, atI_0]
  have pd : ∀ {h' : Hd} {N' : Nat} {k' k2 : Int}, PQ h' p q N' k' → put (.ref q) (.int 0) (.int k2) h' = some (h'.set q (.lst [.int k2])) := fun w => by
    simp only [put, w.pu, List.length_cons, List.length_nil, Nat.reduceAdd, ix10]; rfl
  by_cases h1e : n = 0 ∨ k < 1 ∨ r' < 2
  · obtain ⟨x, h3, e3, w3, x3, xl, xp⟩ := w2.some hS (T := T) (by omega) t1' (by omega)
    refine post_seqR (post_ifT (h1 := h2) ?_ ?_)
    · by_cases z : n = 0
      · subst z; exact e_orT (e_T (e_2 (e_v rfl) e_c (eq_int _ _ _)))
      · have d1 : (((n + 1 : Nat) : Int) == 1) = false := by simp; omega
        refine e_orF (e_T (e_2 (e_v rfl) e_c (by rw [eq_int, d1]))) ?_
        by_cases y : k < 1
        · exact e_orT (e_T (e_2 (e_2 (e_v rfl) e_c (ix w2)) e_c (lt_yes y)))
        · have z2 : r' < 2 := by omega
          exact e_orF (e_T (e_2 (e_2 (e_v rfl) e_c (ix w2)) e_c (lt_no y))) (e_T (e_2 (e_v rfl) e_c (lt_yes z2)))
    · refine ⟨.one x, h3, k, ?_, ⟨xl, xp⟩, w3.up (by omega), k0, x2.trans x3, by simp [parts]⟩
      have tl : gLen [.str T] h2 = .ok (.int T.length) h2 := by simp only [gLen]; rw [if_pos (by show _ ≤ 16777216; omega)]
      exact t_ret (e_a (e_cons e_c (e_cons (e_a (e_cons (e_v rfl) (e_cons (e_v rfl) (e_cons (e_a (e_cons (e_v rfl) e_nil) tl) e_nil))) (e_call rfl e3)) e_nil)) rfl)
  have n0 : n ≠ 0 := fun z => h1e (.inl z)
  have k1 : 1 ≤ k := by omega
  have r2 : 2 ≤ r' := by omega
  have hG : ShapeOk n G := by rcases hG with z | z; exact (n0 z).elim; exact z
  have d1 : (((n + 1 : Nat) : Int) == 1) = false := by simp; omega
  have sub1 : ((n + 1 : Nat) : Int) - 1 = (n : Int) := by omega
  refine post_seq (t_ifF (e_orF (e_T (e_2 (e_v rfl) e_c (by rw [eq_int, d1]))) (e_orF (e_T (e_2 (e_2 (e_v rfl) e_c (ix w2)) e_c (lt_no (show ¬ k < 1 by omega)))) (e_T (e_2 (e_v rfl) e_c (lt_no (show ¬ r' < 2 by omega)))))) t_nx) ?_
  by_cases r4 : r' < 4
  · refine post_seqR (post_ifT (e_T (e_2 (e_v rfl) e_c (lt_yes r4))) ?_)
    refine post_seq (t_put (e_2 (e_2 (e_v rfl) e_c (ix w2)) e_c rfl) (e_v rfl) e_c (pd w2)) ?_
    have w3 : PQ (h2.set q (.lst [.int (k - 1)])) p q (N + 2) (k - 1) := w2.put
    obtain ⟨sh, h4, k4, e4, l4, g4, w4, k40, x4, z4⟩ := hG _ p q (N + 2) (k - 1) T w3 (by omega) (by omega) t1' t2'
    have x4' : Ext p q h h4 := (x2.trans Ext.setQ).trans x4
    refine post_seq (t_set (e_a (e_cons (e_v rfl) (e_cons (e_v rfl) (e_cons (e_2 (e_v rfl) e_c rfl) (e_cons (e_v rfl) e_nil)))) (e_call rfl (by rw [sub1]; exact e4)))) ?_
    cases d2 : (r' == 2) with
    | true =>
      refine post_seqR (post_ifT (e_T (e_2 (e_v rfl) e_c (by rw [eq_int, d2]))) ?_)
      exact ⟨.many sh, h4, k4, t_ret (e_a (e_cons e_c (e_cons (e_v rfl) e_nil)) rfl), g4, w4.up (by omega), k40, x4', by rw [parts_eq, List.length_cons]; simp only [kids, partsL, List.append_nil]; omega⟩
    | false =>
      refine post_seq (t_ifF (e_T (e_2 (e_v rfl) e_c (by rw [eq_int, d2]))) t_nx) ?_
      obtain ⟨lo, h5, e5, lo0, lo1, w5, x5⟩ := w4.take hT (m := 5) (by omega) (by decide) (by decide)
      obtain ⟨up, h6, e6, up0, up1, w6, x6⟩ := w5.take hT (m := 5 - lo) (by omega) (by omega) (by omega)
      refine post_seq (t_set (e_a (e_cons (e_v rfl) (e_cons e_c e_nil)) (e_call rfl e5))) ?_
      refine ⟨.times sh lo (lo + up), h6, k4, t_ret (e_a (e_cons e_c (e_cons (e_v rfl) (e_cons (e_v rfl) (e_cons (e_2 (e_v rfl) (e_a (e_cons (e_v rfl) (e_cons (e_2 e_c (e_v rfl) rfl) e_nil)) (e_call rfl e6)) rfl) e_nil)))) rfl), ⟨⟨lo0, by omega, by omega⟩, g4⟩, w6.up (by omega), k40, (x4'.trans x5).trans x6, by rw [parts_eq, List.length_cons]; simp only [kids, partsL, List.append_nil]; omega⟩
  · refine post_seq (t_ifF (e_T (e_2 (e_v rfl) e_c (lt_no r4))) t_nx) ?_
    have size : ∃ (z : Int) (h3 : Hd), 1 ≤ z ∧ z ≤ 6 ∧ z ≤ k ∧ (sA gMin2 (sCons (s2 gIx (sV 1) (sC (.int 0))) (sCons (s2 gAdd (sC (.int 1)) (sA (sN 2 F_law_take) (sCons (sV 0) (sCons (s2 gIx (sA gLst (sCons (sC (.int 2)) (sCons (sC (.int 3)) (sCons (sC (.int 6)) sNil)))) (sA (sN 2 F_law_take) (sCons (sV 0) (sCons (sC (.int 3)) sNil)))) sNil)))) sNil)))
        [some (.ref p), some (.ref q), some (.int ((n + 1 : Nat) : Int)), some (.str T), some (.int r'), none, none, none, none] h2 = .ok (.int z) h3 ∧ PQ h3 p q (N + 4) k ∧ Ext p q h h3 := by
      have wa : PQ (h2 ++ [.lst [.int 2, .int 3, .int 6]]) p q (N + 2) k := w2.app
      obtain ⟨j, h3, e3, j0, j1, w3, x3⟩ := wa.take hT (m := 3) (by omega) (by decide) (by decide)
      have xa : Ext p q h2 h3 := (Ext.app p q h2 _).trans x3
      have lq : q < h2.length := (List.getElem?_eq_some_iff.mp w2.pu).1
      have at3 : h3[h2.length]? = some (.lst [.int 2, .int 3, .int 6]) := by
        rw [x3.2 h2.length (by simp) (by have := w2.lt; omega) (by omega)]; exact get_last
      have mm : ∃ m : Int, 0 < m ∧ m ≤ 6 ∧ gIx (.ref h2.length) (.int j) h3 = .ok (.int m) h3 := by
        have : j = 0 ∨ j = 1 ∨ j = 2 := by omega
        rcases this with rfl | rfl | rfl
        · exact ⟨2, by decide, by decide, by simp only [gIx, seqD, at3, atI_0]⟩
        · exact ⟨3, by decide, by decide, by simp only [gIx, seqD, at3, atI_1]⟩
        · exact ⟨6, by decide, by decide, by simp only [gIx, seqD, at3, atI_2]⟩
      obtain ⟨m, m0, m6, em⟩ := mm
      obtain ⟨s, h4, e4, s0, s1, w4, x4⟩ := w3.take hT (m := m) (by omega) m0 (by omega)
      refine ⟨if 1 + s < k then 1 + s else k, h4, by split <;> omega, by split <;> omega, by split <;> omega, ?_, w4, (x2.trans xa).trans x4⟩
      exact e_a (e_cons (e_2 (e_v rfl) e_c (ix w2)) (e_cons (e_2 e_c (e_a (e_cons (e_v rfl) (e_cons (e_2 (e_a (e_cons e_c (e_cons e_c (e_cons e_c e_nil))) rfl) (e_a (e_cons (e_v rfl) (e_cons e_c e_nil)) (e_call rfl e3)) em) e_nil)) (e_call rfl e4)) rfl) e_nil)) rfl
    obtain ⟨z, h3, z1, z6, zk, ez, w3, x3⟩ := size
    refine post_seq (t_set ez) ?_
    refine post_seq (t_put (e_2 (e_2 (e_v rfl) e_c (ix w3)) (e_v rfl) rfl) (e_v rfl) e_c (pd w3)) ?_
    have w4 : PQ (h3.set q (.lst [.int (k - z)])) p q (N + 4) (k - z) := w3.put
    have x4 : Ext p q h (h3.set q (.lst [.int (k - z)])) := x3.trans Ext.setQ
    generalize h3.set q (.lst [.int (k - z)]) = h4 at w4 x4
    have mp := mapR_all (ck := fun _ => True) (f := bindT t1 (sA (sN 4 G) (sCons (sV 1) (sCons (sV 2) (sCons (s2 gSub (sV 3) (sC (.int 1))) (sCons (sV 4) sNil))))) [some (.ref p), some (.ref q), some (.int ((n + 1 : Nat) : Int)), some (.str T)]) (rng 0 z.toNat)
      (fun pre ys h' => ∃ (shs : List Sh) (k' : Int), ys = shs.map toD ∧ (∀ s ∈ shs, Drawn T n s) ∧ shs.length = pre.length ∧ PQ h' p q (N + 4 + pre.length * cost n) k' ∧ 0 ≤ k' ∧ Ext p q h h' ∧ ((partsL shs).length : Int) + k' ≤ (pre.length : Int) + (k - z)) (fun _ _ _ _ => True.intro) ?_ (rng 0 z.toNat) [] [] h4 rfl ⟨[], k - z, rfl, by simp, rfl, by simpa using w4, by omega, x4, by simp [partsL]⟩
    · obtain ⟨zs, h5, e5, shs, k5, eq5, g5, l5, w5, k50, x5, z5⟩ := mp
      rw [List.nil_append] at eq5
      subst eq5
      have lr : (rng 0 z.toNat).length = z.toNat := by simp [rng]
      rw [lr] at l5 w5 z5
      have zc : z.toNat * cost n ≤ 6 * cost n := Nat.mul_le_mul_right _ (by omega)
      refine post_seq (t_set (e_a (e_cons (e_comp (e_rg1 (e_cons (e_v rfl) e_nil) (by constructor <;> omega)) (by show (rng 0 z.toNat).length ≤ 16777216; rw [lr]; omega) e5) e_nil) (r := .ok (.tup (shs.map toD)) (h5 ++ [.lst (shs.map toD)])) (by simp only [gTuple, seqD, get_last]))) ?_
      by_cases r6 : 6 < r'
      · refine ⟨.either shs, h5 ++ [.lst (shs.map toD)] ++ [.lst [.str "row", .str "either"]], k5, ?_, ⟨⟨by omega, by omega⟩, g5⟩, (w5.app.app).up (by omega), k50, (x5.trans (Ext.app ..)).trans (Ext.app ..), by rw [parts_eq, List.length_cons]; simp only [kids]; omega⟩
        refine t_ret2 (e_a (e_cons (e_2 (e_a (e_cons e_c (e_cons e_c e_nil)) rfl) (e_a (e_cons (e_2 (e_v rfl) e_c (gt_yes r6)) e_nil) rfl) (r := .ok (.str "either") (h5 ++ [.lst (shs.map toD)] ++ [.lst [.str "row", .str "either"]])) (by simp only [gIx, seqD, get_last]; exact rfl)) (e_cons (e_v rfl) e_nil)) rfl) (by rw [toD, toDs_map]) rfl
      · refine ⟨.row shs, h5 ++ [.lst (shs.map toD)] ++ [.lst [.str "row", .str "either"]], k5, ?_, ⟨by omega, g5⟩, (w5.app.app).up (by omega), k50, (x5.trans (Ext.app ..)).trans (Ext.app ..), by rw [parts_eq, List.length_cons]; simp only [kids]; omega⟩
        refine t_ret2 (e_a (e_cons (e_2 (e_a (e_cons e_c (e_cons e_c e_nil)) rfl) (e_a (e_cons (e_2 (e_v rfl) e_c (gt_no r6)) e_nil) rfl) (r := .ok (.str "row") (h5 ++ [.lst (shs.map toD)] ++ [.lst [.str "row", .str "either"]])) (by simp only [gIx, seqD, get_last]; exact rfl)) (e_cons (e_v rfl) e_nil)) rfl) (by rw [toD, toDs_map]) rfl
    · rintro pre x post ys h' all ⟨shs, k', rfl, gs, ls, w', k0', x', z'⟩
      have la : pre.length < 6 := by
        have := congrArg List.length all
        simp [rng] at this; omega
      have zc : pre.length * cost n ≤ 5 * cost n := Nat.mul_le_mul_right _ (by omega)
      obtain ⟨sh, h6, k6, e6, l6, g6, w6, k60, x6, z6⟩ := hG _ p q _ k' T w' k0' (by omega) t1' t2'
      refine ⟨toD sh, h6, ?_, shs ++ [sh], k6, by simp, ?_, by simp [ls], ?_, k60, x'.trans x6, by rw [partsL_app, List.length_append, List.length_append, List.length_singleton]; simp only [partsL, List.append_nil]; omega⟩
      · apply bind_t1
        exact e_a (e_cons (e_v rfl) (e_cons (e_v rfl) (e_cons (e_2 (e_v rfl) e_c rfl) (e_cons (e_v rfl) e_nil)))) (e_call rfl (by rw [sub1]; exact e6))
      · intro s hs
        rcases List.mem_append.mp hs with hs | hs
        · exact gs s hs
        · rw [List.mem_singleton.mp hs]; exact g6
      · rw [List.length_append, List.length_singleton, Nat.add_mul, Nat.one_mul, ← Nat.add_assoc]; exact w6
theorem shape_ok : ∀ (m n : Nat), n ≤ m → 1 ≤ n → ShapeOk n (F_law_shape m)
  | 0, n, l, n1 => by omega
  | m + 1, 0, _, n1 => by omega
  | m + 1, n + 1, l, _ => by
    intro h p q N k T w k0 hN t1' t2'
    have hG : n = 0 ∨ ShapeOk n (F_law_shape m) := by
      by_cases z : n = 0
      · exact .inl z
      · exact .inr (shape_ok m n (by omega) (by omega))
    obtain ⟨sh, h1, k', e, g, w1, k1, x, z⟩ := shape_body hG w k0 hN t1' t2'
    obtain ⟨h', e', l', w', x'⟩ := PQ.gc (F := bodyR (b_law_shape (F_law_shape m) F_law_some F_law_take) 9) (ds := [.ref p, .ref q, .int ((n + 1 : Nat) : Int), .str T]) (body_rt e) w1 x (List.getElem?_eq_some_iff.mp w.pu).1 (clo_toD _ g.good)
    exact ⟨sh, h', k', e', l', g, w', k1, x', z⟩
end SHF
set_option Elab.async false
set_option linter.all false
set_option maxRecDepth 100000
set_option maxHeartbeats 4000000
namespace SHF
open PySem PySem.Spec L2 MI PEN
open SHP (Sh)
local macro_rules | `(tactic| walk_at "eq") => `(tactic| first | exact rfl | (simp only [List.set_cons_zero, List.set_cons_succ, List.set_set, *] <;> exact rfl))
local macro_rules | `(tactic| walk_at "g") => `(tactic| first | exact rfl | (simp only [gIx, seqD, atI_0, atI_1, atI_2, atI_3, gGt, gGe, gLt, gLe, gAdd, MI.gSub, gMod, gDiv, gPow, gAbs, gInt, gLen, gMax2, gMin2, MI.gTup, MI.gLst, tru, hEq, hNe, pur, eqD, gIs, gIsNot, isNon, gNeg, gIAdd, gMul, List.length_map, *, ite_true, ite_false, if_true, if_false, reduceIte, decide_true, decide_false, and_self, and_true, true_and, Bool.true_eq_false, Nat.reduceLeDiff, List.length_cons, List.length_nil, Nat.reduceAdd, Int.reduceLE, Int.reduceLT, ne_eq, not_false_eq_true, not_true_eq_false] <;> exact rfl) | assumption)
local macro_rules | `(tactic| walk_at "p") => `(tactic| first | exact rfl | (simp only [put, *, List.length_cons, List.length_nil, Nat.reduceAdd, ix31, ix32, ix30, ix10] <;> exact rfl))
local macro_rules | `(tactic| walk_at "ev") => `(tactic| first
  | (with_reducible exact e_c)
  | ((with_reducible apply e_v); exact rfl)
  | (with_reducible exact e_nil)
  | (with_reducible exact e_oN)
  | ((with_reducible apply e_2); walk_at "ev"; walk_at "ev"; walk_at "g")
  | ((with_reducible apply e_1); walk_at "ev"; walk_at "g")
  | ((with_reducible apply e_a); walk_at "ev"; first | ((with_reducible apply e_call); exact rfl; first | assumption | walk_at "g") | walk_at "g")
  | ((with_reducible apply e_cons); walk_at "ev"; walk_at "ev")
  | ((with_reducible apply e_T); walk_at "ev")
  | ((with_reducible apply e_not); walk_at "ev")
  | ((with_reducible apply e_tru); walk_at "ev"; walk_at "g")
  | ((with_reducible apply e_oS); walk_at "ev")
  | ((with_reducible apply e_sl); walk_at "ev"; walk_at "ev"; walk_at "ev"; walk_at "g")
  | ((with_reducible apply e_notV); walk_at "ev")
  | ((with_reducible apply e_andF); walk_at "ev")
  | ((with_reducible apply e_andT); walk_at "ev"; walk_at "ev")
  | ((with_reducible apply e_orT); walk_at "ev")
  | ((with_reducible apply e_orF); walk_at "ev"; walk_at "ev")
  | ((with_reducible apply e_andVF); walk_at "ev")
  | ((with_reducible apply e_andVT); walk_at "ev"; walk_at "ev")
  | ((with_reducible apply e_orVT); walk_at "ev")
  | ((with_reducible apply e_orVF); walk_at "ev"; walk_at "ev")
  | ((with_reducible apply e_ifT); walk_at "ev"; walk_at "ev")
  | ((with_reducible apply e_ifF); walk_at "ev"; walk_at "ev"))
local macro_rules | `(tactic| walk_at "st") => `(tactic| first
  | (with_reducible exact t_nx)
  | ((with_reducible apply t_set2); walk_at "ev"; walk_at "eq"; walk_at "eq")
  | ((with_reducible apply t_ret2); walk_at "ev"; walk_at "eq"; walk_at "eq")
  | ((with_reducible apply t_drop); walk_at "ev")
  | ((with_reducible apply t_put); walk_at "ev"; walk_at "ev"; walk_at "ev"; walk_at "p")
  | ((with_reducible apply t_ifF); walk_at "ev"; walk_at "st")
  | ((with_reducible apply t_ifT); walk_at "ev"; walk_at "st")
  | ((with_reducible apply t_seq); walk_at "st"; walk_at "st")
  | ((with_reducible apply t_seqR); walk_at "st"))
noncomputable def b_law (F_law_parts : SF) (F_law_pen : SF) (F_law_right : SF) (F_law_same : SF) (F_law_shape : SF) (F_law_signs : SF) (F_law_some : SF) (F_law_take : SF) (F_parts_of : SF) (F_weight : SF) : SS :=
 (sSeq (sSet 1 (sA (sN 1 F_law_pen) (sCons (sV 0) sNil)))
 (sSeq (sSet 2 (sA (sN 3 F_law_some) (sCons (sV 1) (sCons (sA (sN 0 F_law_signs) sNil) (sCons (sC (.int 6)) sNil)))))
 (sSeq (sSet 3 (sA gLst (sCons (sA (sN 4 F_law_shape) (sCons (sV 1) (sCons (sA gLst (sCons (sC (.int 23)) sNil)) (sCons (sC (.int 5)) (sCons (sV 2) sNil))))) sNil)))
 (sSeq (sSet 3 (s2 gAdd (sV 3) (sComp (sRg gRng1 (sCons (sC (.int 2)) sNil)) t1 (sA (sN 4 F_law_shape) (sCons (sV 1) (sCons (sA gLst (sCons (sC (.int 7)) sNil)) (sCons (sC (.int 3)) (sCons (sV 2) sNil))))) [1, 2])))
 (sSeq (sSet 4 (sA (sN 2 F_law_take) (sCons (sV 1) (sCons (sC (.int 5)) sNil))))
 (sSeq (sSet 5 (s2 gAdd (sV 4) (sA (sN 2 F_law_take) (sCons (sV 1) (sCons (s2 gSub (sC (.int 5)) (sV 4)) sNil)))))
 (sSeq (sSet 6 (s2 gIx (sV 3) (s2 gAdd (sC (.int 1)) (sA (sN 2 F_law_take) (sCons (sV 1) (sCons (sC (.int 2)) sNil))))))
 (sSeq (sSet 3 (s2 gAdd (sV 3) (sA gLst (sCons (sA gTup (sCons (sC (.str "many")) (sCons (sV 6) sNil))) (sCons (sA gTup (sCons (sC (.str "times")) (sCons (sV 6) (sCons (sV 4) (sCons (sV 5) sNil))))) (sCons (sA gTup (sCons (sC (.str "times")) (sCons (sA gTup (sCons (sC (.str "times")) (sCons (sV 6) (sCons (sC (.int 0)) (sCons (sV 5) sNil))))) (sCons (sV 4) (sCons (sV 5) sNil))))) sNil))))))
 (sSeq (sSet 3 (s2 gAdd (sV 3) (sA gLst (sCons (sA gTup (sCons (sC (.str "row")) (sCons (sA gTuple (sCons (sSl2 (sV 3) (oS (sC (.int 1))) (oS (sC (.int 3)))) sNil)) sNil))) (sCons (sA gTup (sCons (sC (.str "either")) (sCons (sSl2 (sA gTup (sCons (s2 gIx (sV 3) (sC (.int 2))) (sCons (s2 gIx (sV 3) (sC (.int 1))) (sCons (sV 6) sNil)))) oN (oS (s2 gAdd (sC (.int 2)) (sA (sN 2 F_law_take) (sCons (sV 1) (sCons (sC (.int 2)) sNil)))))) sNil))) sNil)))))
 (sSeq (sFor (sIt (sV 3)) (kN 7) (sIf (sAnd (sT (s2 gLt (sA gLen (sCons (sA (sN 1 F_law_parts) (sCons (sV 7) sNil)) sNil)) (sC (.int 25)))) (sNot (sTru (sA (sN 1 F_law_right) (sCons (sV 7) sNil)))))
  (sRet (sC (.bl false)))
  sNx))
 (sRet (sAndV (sA (sN 1 F_law_right) (sCons (s2 gIx (sV 3) (sC (.int 0))) sNil)) (sAndV (s2 hEq (sA (sN 1 F_weight) (sCons (sA gTup (sCons (sC (.str "row")) (sCons (sA gTup sNil) sNil))) sNil)) (sC (.int 0))) (sA (sN 2 F_law_same) (sCons (sA (sN 1 F_parts_of) (sCons (sA gTup (sCons (sC (.str "row")) (sCons (sA gTup sNil) sNil))) sNil)) (sCons (sA gTup (sCons (sA gTup (sCons (sC (.str "row")) (sCons (sA gTup sNil) sNil))) sNil)) sNil))))))))))))))))
def Keep (p : Nat) (h h' : Hd) : Prop := h.length ≤ h'.length ∧ ∀ i, i < h.length → i ≠ p → h'[i]? = h[i]?
theorem Keep.refl (p : Nat) (h : Hd) : Keep p h h := ⟨Nat.le_refl _, fun _ _ _ => rfl⟩
theorem Keep.trans {p : Nat} {h h1 h2 : Hd} (a : Keep p h h1) (b : Keep p h1 h2) : Keep p h h2 := ⟨Nat.le_trans a.1 b.1, fun i l x => by rw [b.2 i (by have := a.1; omega) x, a.2 i l x]⟩
theorem Keep.get {p i : Nat} {h h' : Hd} {o : O} (K : Keep p h h') (e : h[i]? = some o) (ne : i ≠ p) : h'[i]? = some o := by
  rw [K.2 i (List.getElem?_eq_some_iff.mp e).1 ne]; exact e
theorem shape_call {m n : Nat} (l : n ≤ m) (n1 : 1 ≤ n) {h : Hd} {p N : Nat} {k : Int} {T : Str} (P : Pen h p N) (k0 : 0 ≤ k) (hN : N + cost n ≤ 800000000000) (t1 : 1 ≤ T.length) (t2 : T.length ≤ 900) :
    ∃ sh h', F_law_shape m [.ref p, .ref h.length, .int n, .str T] (h ++ [.lst [.int k]]) = .ok (toD sh) h' ∧ good n sh ∧ Pen h' p (N + cost n) ∧ Keep p h h' ∧ Drawn T n sh ∧ ((parts sh).length : Int) ≤ 1 + k := by
  obtain ⟨sh, h', k', e, l', g, w, k0', x, z⟩ := shape_ok m n l n1 (h ++ [.lst [.int k]]) p h.length N k T ⟨Pen.app P, get_last, Pen.lt P⟩ k0 hN t1 t2
  exact ⟨sh, h', e, g.good, w.pen, ⟨by rw [l']; simp, fun i hi ne => by rw [x.2 i (by simp; omega) ne (by omega), List.getElem?_append_left hi]⟩, g, by omega⟩
theorem take_call {h : Hd} {p N : Nat} {m : Int} (P : Pen h p N) (hn : N ≤ 1000000000000) (m0 : 0 < m) (m1 : m < 1073741824) : ∃ r h', F_law_take [.ref p, .int m] h = .ok (.int r) h' ∧ 0 ≤ r ∧ r < m ∧ Pen h' p (N + 1) ∧ Keep p h h' := by
  obtain ⟨r, o, e, r0, r1, P'⟩ := take_ok h p N m P hn m0 m1
  exact ⟨r, _, e, r0, r1, P', by simp, fun i hi ne => List.getElem?_set_ne (Ne.symm ne)⟩
theorem Keep.app (p : Nat) (h g : Hd) : Keep p h (h ++ g) := ⟨by simp, fun i l _ => List.getElem?_append_left l⟩
def Done (r : Fl) : Prop := ∃ h1, r = .rt (.bl true) h1
theorem done_seq {s s' : SS} {τ τ1 : Sd} {h h1 : Hd} (e : s τ h = .nx τ1 h1) (o : Done (s' τ1 h1)) : Done (sSeq s s' τ h) := by
  rw [t_seq e rfl]; exact o
theorem gc_some {F : SF} {ds : List D} {h h1 : Hd} {d : D} (e : F ds h = .ok d h1) : ∃ h', gcF F ds h = .ok d h' := by
  unfold gcF
  rw [e]
  dsimp only
  split
  · exact ⟨_, rfl⟩
  · exact ⟨_, rfl⟩
noncomputable def F_law_pen : SF := gcF (bodyR b_pen 1)
noncomputable def F_law_signs : SF := gcF (bodyR b_signs 1)
noncomputable def F_law : SF := gcF (bodyR (b_law (F_law_parts 6) F_law_pen F_law_right (F_law_same 13) (F_law_shape 5) F_law_signs F_law_some F_law_take (F_parts_of 6) (F_weight 6)) 8)
theorem law_ok (ns : List Int) : ∃ h', F_law [.rol (ns.map D.int)] [] = .ok (.bl true) h' := by
  suffices h : Done (b_law (F_law_parts 6) F_law_pen F_law_right (F_law_same 13) (F_law_shape 5) F_law_signs F_law_some F_law_take (F_parts_of 6) (F_weight 6) [some (.rol (ns.map D.int)), none, none, none, none, none, none, none] []) by
    obtain ⟨h1, e⟩ := h
    exact gc_some (body_rt e)
  have cc : cost 5 = 16807000 := by decide
  have cd : cost 3 = 343000 := by decide
  unfold b_law
  obtain ⟨p, g, e0, _, P0⟩ := pen_ok ns []
  have e0 : F_law_pen [.rol (ns.map D.int)] [] = .ok (.ref p) ([] ++ g) := e0
  refine done_seq (t_set (e_a (e_cons (e_v rfl) e_nil) (e_call rfl e0))) ?_
  clear e0
  generalize ([] ++ g : Hd) = h0 at P0
  obtain ⟨T, o1, e1, T1, T6, P1, _⟩ := some_ok take_ok h0 p 0 (PEN.s1 ++ s2') 6 P0 (by decide) (by decide) (by rw [signs_len]; decide) (by rw [signs_len]; decide)
  have e1' : F_law_some [.ref p, .str (PEN.s1 ++ s2'), .int 6] h0 = .ok (.str T) (h0.set p o1) := e1
  have es' : F_law_signs [] h0 = .ok (.str (PEN.s1 ++ s2')) h0 := signs_ok h0
  generalize PEN.s1 ++ s2' = SG at e1' es'
  refine done_seq (t_set (e_a (e_cons (e_v rfl) (e_cons (e_a e_nil (e_call rfl es')) (e_cons e_c e_nil))) (e_call rfl e1'))) ?_
  clear e1' es' e1
  generalize h0.set p o1 = h1 at P1
  have T7 : T.length ≤ 900 := by omega
  obtain ⟨sh0, h2, e2, g0, P2, _⟩ := shape_call (m := 5) (n := 5) (by decide) (by decide) (k := 23) P1 (by decide) (by omega) T1 T7
  refine done_seq (t_set (e_a (e_cons (e_a (e_cons (e_v rfl) (e_cons (e_a (e_cons e_c e_nil) rfl) (e_cons e_c (e_cons (e_v rfl) e_nil)))) (e_call rfl e2)) e_nil) rfl)) ?_
  have P3 : Pen (h2 ++ [.lst [toD sh0]]) p _ := Pen.app P2
  have q3 : (h2 ++ [.lst [toD sh0]])[h2.length]? = some (.lst [toD sh0]) := get_last
  have n3 : h2.length ≠ p := by have := Pen.lt P2; omega
  generalize (h2 ++ [.lst [toD sh0]] : Hd) = h3 at P3 q3
  generalize h2.length = L3 at q3 n3
  have mp := mapR_all (ck := fun _ => True) (f := bindT t1 (sA (sN 4 (F_law_shape 5)) (sCons (sV 1) (sCons (sA gLst (sCons (sC (.int 7)) sNil)) (sCons (sC (.int 3)) (sCons (sV 2) sNil))))) [some (.ref p), some (.str T)]) (rng 0 (2 : Int).toNat)
    (fun pre ys h' => ∃ shs : List Sh, ys = shs.map toD ∧ (∀ s ∈ shs, good 3 s) ∧ shs.length = pre.length ∧ Pen h' p (0 + 1 + (6 : Int).toNat + cost 5 + pre.length * cost 3) ∧ Keep p h3 h') (fun _ _ _ _ => True.intro) ?_ (rng 0 (2 : Int).toNat) [] [] h3 rfl ⟨[], rfl, by simp, rfl, P3, Keep.refl _ _⟩
  rotate_left
  · rintro pre x post ys h' all ⟨shs, rfl, gs, ls, P', K'⟩
    have la : pre.length < 2 := by
      have := congrArg List.length all
      simp [rng] at this; omega
    have zc : pre.length * cost 3 ≤ 1 * cost 3 := Nat.mul_le_mul_right _ (by omega)
    obtain ⟨sh, h6, e6, g6, P6, K6, _⟩ := shape_call (m := 5) (n := 3) (by decide) (by decide) (k := 7) P' (by decide) (by omega) T1 T7
    refine ⟨toD sh, h6, ?_, shs ++ [sh], by simp, ?_, by simp [ls], ?_, K'.trans K6⟩
    · apply bind_t1
      exact e_a (e_cons (e_v rfl) (e_cons (e_a (e_cons e_c e_nil) rfl) (e_cons e_c (e_cons (e_v rfl) e_nil)))) (e_call rfl e6)
    · intro s hs
      rcases List.mem_append.mp hs with hs | hs
      · exact gs s hs
      · rw [List.mem_singleton.mp hs]; exact g6
    · rw [List.length_append, List.length_singleton, Nat.add_mul, Nat.one_mul, ← Nat.add_assoc]; exact P6
  obtain ⟨zs, h4, e4, shs, eq4, g4, l4, P4, K4⟩ := mp
  rw [List.nil_append] at eq4
  subst eq4
  have lr : (rng 0 (2 : Int).toNat).length = 2 := by simp [rng]
  rw [lr] at l4 P4
  obtain ⟨sa, sb, rfl⟩ : ∃ sa sb, shs = [sa, sb] := by
    match shs, l4 with
    | [a, b], _ => exact ⟨a, b, rfl⟩
  have ga : good 3 sa := g4 sa (by simp)
  have gb : good 3 sb := g4 sb (by simp)
  clear g4 l4
  refine done_seq (t_set (e_2 (e_v rfl) (e_comp (e_rg1 (e_cons e_c e_nil) (by constructor <;> decide)) (by show (rng 0 (2 : Int).toNat).length ≤ 16777216; rw [lr]; decide) e4) (add_lists (get_left (K4.get q3 n3)) get_last (by show _ ≤ 16777216; simp)))) ?_
  have P5 : Pen (h4 ++ [.lst ([sa, sb].map toD)] ++ [.lst ([toD sh0] ++ [sa, sb].map toD)]) p _ := Pen.app (Pen.app P4)
  have q5 : (h4 ++ [.lst ([sa, sb].map toD)] ++ [.lst ([toD sh0] ++ [sa, sb].map toD)])[(h4 ++ [O.lst ([sa, sb].map toD)]).length]? = some (.lst ([toD sh0] ++ [sa, sb].map toD)) := get_last
  have n5 : (h4 ++ [O.lst ([sa, sb].map toD)]).length ≠ p := by have := Pen.lt P4; rw [List.length_append]; simp; omega
  generalize (h4 ++ [.lst ([sa, sb].map toD)] ++ [.lst ([toD sh0] ++ [sa, sb].map toD)] : Hd) = h5 at P5 q5
  generalize (h4 ++ [O.lst ([sa, sb].map toD)]).length = L5 at q5 n5
  have q5 : h5[L5]? = some (.lst [toD sh0, toD sa, toD sb]) := q5
  obtain ⟨lo, h6, e6, lo0, lo1, P6, K6⟩ := take_call (m := 5) P5 (by omega) (by decide) (by decide)
  refine done_seq (t_set (e_a (e_cons (e_v rfl) (e_cons e_c e_nil)) (e_call rfl e6))) ?_
  obtain ⟨up, h7, e7, up0, up1, P7, K7⟩ := take_call (m := 5 - lo) P6 (by omega) (by omega) (by omega)
  refine done_seq (t_set (e_2 (e_v rfl) (e_a (e_cons (e_v rfl) (e_cons (e_2 e_c (e_v rfl) rfl) e_nil)) (e_call rfl e7)) rfl)) ?_
  obtain ⟨r, h8, e8, r0, r1, P8, K8⟩ := take_call (m := 2) P7 (by omega) (by decide) (by decide)
  have q8 : h8[L5]? = some (.lst [toD sh0, toD sa, toD sb]) := ((K6.trans K7).trans K8).get q5 n5
  have one : ∃ s1, good 3 s1 ∧ gIx (.ref L5) (.int (1 + r)) h8 = .ok (toD s1) h8 := by
    have : r = 0 ∨ r = 1 := by omega
    rcases this with rfl | rfl
    · exact ⟨sa, ga, by simp only [gIx, seqD, q8, show (1 : Int) + 0 = 1 from rfl, atI_1]⟩
    · exact ⟨sb, gb, by simp only [gIx, seqD, q8, show (1 : Int) + 1 = 2 from rfl, atI_2]⟩
  obtain ⟨s1, gs1, eo⟩ := one
  refine done_seq (t_set (e_2 (e_v rfl) (e_2 e_c (e_a (e_cons (e_v rfl) (e_cons e_c e_nil)) (e_call rfl e8)) rfl) eo)) ?_
  generalize hhi : lo + up = hi
  have b1 : 0 ≤ lo ∧ lo ≤ hi ∧ hi ≤ 4 := ⟨lo0, by omega, by omega⟩
  have b2 : (0 : Int) ≤ 0 ∧ 0 ≤ hi ∧ hi ≤ 4 := ⟨by decide, by omega, by omega⟩
  have w1 : toD (.many s1) = .tup [.str "many", toD s1] := by rw [toD]
  have w2 : toD (.times s1 lo hi) = .tup [.str "times", toD s1, .int lo, .int hi] := by rw [toD]
  have w3 : toD (.times (.times s1 0 hi) lo hi) = .tup [.str "times", .tup [.str "times", toD s1, .int 0, .int hi], .int lo, .int hi] := by rw [toD, toD]
  refine done_seq (t_set (e_2 (e_v rfl) (e_a (e_cons (e_a (e_cons e_c (e_cons (e_v rfl) e_nil)) rfl) (e_cons (e_a (e_cons e_c (e_cons (e_v rfl) (e_cons (e_v rfl) (e_cons (e_v rfl) e_nil)))) rfl) (e_cons (e_a (e_cons e_c (e_cons (e_a (e_cons e_c (e_cons (e_v rfl) (e_cons e_c (e_cons (e_v rfl) e_nil)))) rfl) (e_cons (e_v rfl) (e_cons (e_v rfl) e_nil)))) rfl) e_nil))) rfl) (add_lists (get_left q8) get_last (by show _ ≤ 16777216; simp)))) ?_
  rw [← w3, ← w2, ← w1]
  generalize hh9 : (h8 ++ [O.lst [toD (.many s1), toD (.times s1 lo hi), toD (.times (.times s1 0 hi) lo hi)]] : Hd) = h9
  have P9 : Pen h9 p 100000000 := by rw [← hh9]; exact (Pen.app P8).up (by omega)
  have q9 : (h9 ++ [.lst ([toD sh0, toD sa, toD sb] ++ [toD (.many s1), toD (.times s1 lo hi), toD (.times (.times s1 0 hi) lo hi)])])[h9.length]? = some (.lst ([toD sh0, toD sa, toD sb] ++ [toD (.many s1), toD (.times s1 lo hi), toD (.times (.times s1 0 hi) lo hi)])) := get_last
  have n9 : h9.length ≠ p := by have := Pen.lt P9; omega
  have P10 : Pen (h9 ++ [.lst ([toD sh0, toD sa, toD sb] ++ [toD (.many s1), toD (.times s1 lo hi), toD (.times (.times s1 0 hi) lo hi)])]) p _ := Pen.app P9
  generalize (h9 ++ [.lst ([toD sh0, toD sa, toD sb] ++ [toD (.many s1), toD (.times s1 lo hi), toD (.times (.times s1 0 hi) lo hi)])] : Hd) = h10 at q9 P10
  generalize h9.length = L9 at q9 n9
  have q9 : h10[L9]? = some (.lst [toD sh0, toD sa, toD sb, toD (.many s1), toD (.times s1 lo hi), toD (.times (.times s1 0 hi) lo hi)]) := q9
  clear P9
  have sl : ∃ h11 : Hd, h11 = h10 ++ [.lst [toD sa, toD sb]] := ⟨_, rfl⟩
  obtain ⟨h11, eh11⟩ := sl
  have cut3 : cutL [toD sh0, toD sa, toD sb, toD (.many s1), toD (.times s1 lo hi), toD (.times (.times s1 0 hi) lo hi)] (some 1) (some 3) = [toD sa, toD sb] := rfl
  have es : gSl2 (.ref L9) (some 1) (some 3) h10 = .ok (.ref h10.length) h11 := by
    show gSl (.ref L9) (some 1) (some 3) h10 = _
    simp only [gSl, q9, cut3, eh11]
  have et : gTuple [.ref h10.length] h11 = .ok (.tup [toD sa, toD sb]) h11 := by
    have : h11[h10.length]? = some (.lst [toD sa, toD sb]) := by rw [eh11]; exact get_last
    simp only [gTuple, seqD, this]
  have P11 : Pen h11 p 100000000 := by rw [eh11]; exact Pen.app P10
  have q11 : h11[L9]? = some (.lst [toD sh0, toD sa, toD sb, toD (.many s1), toD (.times s1 lo hi), toD (.times (.times s1 0 hi) lo hi)]) := by rw [eh11]; exact get_left q9
  obtain ⟨u, h12, e12, u0, u1, P12, K12⟩ := take_call (m := 2) P11 (by omega) (by decide) (by decide)
  have q12 := K12.get q11 n9
  have i2 : gIx (.ref L9) (.int 2) h11 = .ok (toD sb) h11 := by simp only [gIx, seqD, q11, atI_2]
  have i1 : gIx (.ref L9) (.int 1) h11 = .ok (toD sa) h11 := by simp only [gIx, seqD, q11, atI_1]
  have ei : ∃ es : List Sh, es.length ≤ 6 ∧ (∀ s ∈ es, good 3 s) ∧ gSl2 (.tup [toD sb, toD sa, toD s1]) none (some (2 + u)) h12 = .ok (.tup (es.map toD)) h12 := by
    have : u = 0 ∨ u = 1 := by omega
    rcases this with rfl | rfl
    · exact ⟨[sb, sa], by simp, by simp [ga, gb], by rw [gSl2_tup]; rfl⟩
    · exact ⟨[sb, sa, s1], by simp, by simp [ga, gb, gs1], by rw [gSl2_tup]; rfl⟩
  obtain ⟨eis, el, eg, ee⟩ := ei
  have w4 : toD (.row [sa, sb]) = .tup [.str "row", .tup [toD sa, toD sb]] := by rw [toD, toDs_map]; rfl
  have w5 : toD (.either eis) = .tup [.str "either", .tup (eis.map toD)] := by rw [toD, toDs_map]
  refine done_seq (t_set (e_2 (e_v rfl) (e_a (e_cons (e_a (e_cons e_c (e_cons (e_a (e_cons (e_sl (e_v rfl) (e_oS e_c) (e_oS e_c) es) e_nil) et) e_nil)) rfl) (e_cons (e_a (e_cons e_c (e_cons (e_sl (e_a (e_cons (e_2 (e_v rfl) e_c i2) (e_cons (e_2 (e_v rfl) e_c i1) (e_cons (e_v rfl) e_nil))) rfl) e_oN (e_oS (e_2 e_c (e_a (e_cons (e_v rfl) (e_cons e_c e_nil)) (e_call rfl e12)) rfl)) ee) e_nil)) rfl) e_nil)) rfl) (add_lists (get_left q12) get_last (by show _ ≤ 16777216; simp)))) ?_
  rw [← w4, ← w5]
  have all : ∃ as : List Sh, as = [sh0, sa, sb, .many s1, .times s1 lo hi, .times (.times s1 0 hi) lo hi, .row [sa, sb], .either eis] := ⟨_, rfl⟩
  obtain ⟨as, eas⟩ := all
  have gall : ∀ s ∈ as, good 6 s := by
    subst eas
    have ga' := good_le ga (show 3 ≤ 5 by decide)
    have gb' := good_le gb (show 3 ≤ 5 by decide)
    have gs' := good_le gs1 (show 3 ≤ 5 by decide)
    intro s hs
    simp only [List.mem_cons, List.not_mem_nil, or_false] at hs
    rcases hs with rfl | rfl | rfl | rfl | rfl | rfl | rfl | rfl
    · exact good_le g0 (by decide)
    · exact good_le ga (by decide)
    · exact good_le gb (by decide)
    · exact gs'
    · exact ⟨b1, gs'⟩
    · exact ⟨b1, b2, good_le gs1 (by decide)⟩
    · exact ⟨by simp, by simp [ga', gb']⟩
    · exact ⟨el, fun s hs => good_le (eg s hs) (by decide)⟩
  have em : [toD sh0, toD sa, toD sb, toD (.many s1), toD (.times s1 lo hi), toD (.times (.times s1 0 hi) lo hi)] ++ [toD (.row [sa, sb]), toD (.either eis)] = as.map toD := by rw [eas]; rfl
  rw [em]
  generalize (h12 ++ [O.lst [toD (.row [sa, sb]), toD (.either eis)]] : Hd) = h13
  have q13 : (h13 ++ [.lst (as.map toD)])[h13.length]? = some (.lst (as.map toD)) := get_last
  generalize (h13 ++ [.lst (as.map toD)] : Hd) = h14 at q13
  generalize h13.length = L at q13
  have lo' := forS (ck := fun h => h[L]? = some (.lst (as.map toD))) (g := kN 7) (b := (sIf (sAnd (sT (s2 gLt (sA gLen (sCons (sA (sN 1 (F_law_parts 6)) (sCons (sV 7) sNil)) sNil)) (sC (.int 25)))) (sNot (sTru (sA (sN 1 F_law_right) (sCons (sV 7) sNil))))) (sRet (sC (.bl false))) sNx)) (ps := as)
    (fun _ τ h' => ∃ t7, τ = [some (.rol (ns.map D.int)), some (.ref p), some (.str T), some (.ref L), some (.int lo), some (.int hi), some (toD s1), t7] ∧ h'[L]? = some (.lst (as.map toD))) (fun _ _ _ ⟨_, _, e⟩ => e) ?_ (τ := [some (.rol (ns.map D.int)), some (.ref p), some (.str T), some (.ref L), some (.int lo), some (.int hi), some (toD s1), none]) (h := h14) ⟨none, rfl, q13⟩
  rotate_left
  · rintro pre s post τ h' e ⟨t7, rfl, eh⟩
    have gs : good 6 s := gall s (by rw [e]; simp)
    obtain ⟨a, g, ep, la, ea⟩ := law_parts_ok 6 s h' (by decide) gs
    refine ⟨_, _, rfl, [some (.rol (ns.map D.int)), some (.ref p), some (.str T), some (.ref L), some (.int lo), some (.int hi), some (toD s1), some (toD s)], h' ++ g, ?_, _, rfl, get_left eh⟩
    have el2 : gLen [.ref a] (h' ++ g) = .ok (.int (parts s).length) (h' ++ g) := by simp only [gLen, seqD, ea, List.length_map]
    by_cases z : ((parts s).length : Int) < 25
    · exact t_ifF (e_andT (e_T (e_2 (e_a (e_cons (e_a (e_cons (e_v rfl) e_nil) (e_call rfl ep)) e_nil) el2) e_c (lt_yes z))) (e_not (b := true) (e_tru (e_a (e_cons (e_v rfl) e_nil) (e_call rfl (right_ok s _ gs))) rfl))) t_nx
    · exact t_ifF (e_andF (e_T (e_2 (e_a (e_cons (e_a (e_cons (e_v rfl) e_nil) (e_call rfl ep)) e_nil) el2) e_c (lt_no z)))) t_nx
  obtain ⟨τ', h', e, t7, rfl, eh⟩ := lo'
  have itq : itOf (.ref L) h14 = .ok ⟨as.map toD, fun h => h[L]? = some (.lst (as.map toD))⟩ h14 := by simp only [itOf, q13]
  refine done_seq (t_for (e_it (e_v rfl) itq) e) ?_
  have gr : good 6 (.row []) := ⟨by decide, by simp⟩
  have tr : toD (.row []) = .tup [.str "row", .tup []] := by rw [toD, toDs]
  have i0 : gIx (.ref L) (.int 0) h' = .ok (toD sh0) h' := by
    have : as.map toD = toD sh0 :: ([sa, sb, .many s1, .times s1 lo hi, .times (.times s1 0 hi) lo hi, .row [sa, sb], .either eis] : List Sh).map toD := by rw [eas]; rfl
    simp only [gIx, seqD, eh, this, atI_0]
  have x1 := right_ok sh0 h' (good_le g0 (by decide))
  have x2 : F_weight 6 [.tup [.str "row", .tup []]] h' = .ok (.int 0) h' := by
    have := weight_ok 6 (.row []) h' gr
    rwa [tr] at this
  have x3 : F_parts_of 6 [.tup [.str "row", .tup []]] h' = .ok (.tup [.tup [.str "row", .tup []]]) h' := by
    have := parts_of_ok 6 (.row []) h' (by decide) gr
    rw [tr] at this
    rw [this]
    simp [parts, partsL, tr]
  have x4 : F_law_same 13 [.tup [.tup [.str "row", .tup []]], .tup [.tup [.str "row", .tup []]]] h' = .ok (.bl true) h' := same_ok 13 _ h' (by
    intro d hd
    rw [List.mem_singleton.mp hd, ← tr]
    exact nice_toD gr)
  exact ⟨h', t_ret (e_andVT (e_a (e_cons (e_2 (e_v rfl) e_c i0) e_nil) (e_call rfl x1)) (e_andVT (e_2 (e_a (e_cons (e_a (e_cons e_c (e_cons (e_a e_nil rfl) e_nil)) rfl) e_nil) (e_call rfl x2)) e_c (eq_int _ _ _)) (e_a (e_cons (e_a (e_cons (e_a (e_cons e_c (e_cons (e_a e_nil rfl) e_nil)) rfl) e_nil) (e_call rfl x3)) (e_cons (e_a (e_cons (e_a (e_cons e_c (e_cons (e_a e_nil rfl) e_nil)) rfl) e_nil) rfl) e_nil)) (e_call rfl x4))))⟩
noncomputable def F_law_inner : SF := F_inner
end SHF
set_option Elab.async false
set_option linter.all false
set_option maxRecDepth 100000
set_option maxHeartbeats 4000000
namespace Q4
open PySem PySem.Spec L2 MI PEN SHF
open SHP (Sh)
noncomputable def b_is_number : SS :=
 (sRet (sAndV (sA gIsi (sCons (sV 0) (sCons (sC (.ty "int")) sNil))) (sNotV (sA gIsi (sCons (sV 0) (sCons (sC (.ty "bool")) sNil))))))
noncomputable def b_is_number_from (F_is_number : SF) : SS :=
 (sRet (sAndV (sA (sN 1 F_is_number) (sCons (sV 0) sNil)) (sCh gLe gLe (sV 1) (sV 0) (sV 2))))
noncomputable def b_is_row : SS :=
 (sRet (sAndV (sA gIsi (sCons (sV 0) (sCons (sC (.ty "tuple")) sNil))) (sCh gLe gLe (sV 1) (sA gLen (sCons (sV 0) sNil)) (sV 2))))
noncomputable def b_is_sign : SS :=
 (sSeq (sIf (sOr (sNot (sTru (sA gIsi (sCons (sV 0) (sCons (sC (.ty "str")) sNil))))) (sT (s2 hNe (sA gLen (sCons (sV 0) sNil)) (sC (.int 1)))))
  (sRet (sC (.bl false)))
  sNx)
 (sSeq (sIf (sT (s2 hEq (sV 0) (sC (.str "\n"))))
  (sRet (sC (.bl true)))
  sNx)
 (sRet (sAndV (sCh gLe gLe (sC (.str " ")) (sV 0) (sC (.str "~"))) (s2 hNe (sA gOrd (sCons (sV 0) sNil)) (sC (.int 37)))))))
noncomputable def b_is_unlike_signs (F_is_sign : SF) : SS :=
 (sSeq (sIf (sOr (sNot (sTru (sA gIsi (sCons (sV 0) (sCons (sC (.ty "str")) sNil))))) (sNot (sT (sCh gLe gLe (sC (.int 1)) (sA gLen (sCons (sV 0) sNil)) (sC (.int 6))))))
  (sRet (sC (.bl false)))
  sNx)
 (sRet (sAndV (s2 hEq (s1 gLenSet (sV 0)) (sA gLen (sCons (sV 0) sNil))) (sA gAll (sCons (sComp (sIt (sV 0)) t1 (sA (sN 1 F_is_sign) (sCons (sV 0) sNil)) []) sNil)))))
noncomputable def b_is_shape (F_parts_count : SF) : SS :=
 (sRet (s2 gGt (sA (sN 3 F_parts_count) (sCons (sV 0) (sCons (sC (.int 5)) (sCons (sC (.int 24)) sNil)))) (sC (.int 0))))
noncomputable def b_parts_count (F_inner : SF) (F_is_form : SF) (F_parts_count : SF) : SS :=
 (sSeq (sIf (sOr (sT (s2 gLt (sV 1) (sC (.int 1)))) (sOr (sT (s2 gLt (sV 2) (sC (.int 1)))) (sNot (sTru (sA (sN 1 F_is_form) (sCons (sV 0) sNil))))))
  (sRet (sC (.int 0)))
  sNx)
 (sSeq (sSet 3 (sC (.int 1)))
 (sSeq (sFor (sIt (sA (sN 1 F_inner) (sCons (sV 0) sNil))) (kN 4) (sSeq (sSet 5 (sA (sN 3 F_parts_count) (sCons (sV 4) (sCons (s2 gSub (sV 1) (sC (.int 1))) (sCons (s2 gSub (sV 2) (sV 3)) sNil)))))
 (sSeq (sIf (sT (s2 hEq (sV 5) (sC (.int 0))))
  (sRet (sC (.int 0)))
  sNx)
 (sAug 3 gIAdd (sV 5)))))
 (sRet (sV 3)))))
noncomputable def b_is_form (F_are_times : SF) (F_is_row : SF) (F_is_unlike_signs : SF) : SS :=
 (sSeq (sIf (sOr (sNot (sTru (sA (sN 3 F_is_row) (sCons (sV 0) (sCons (sC (.int 2)) (sCons (sC (.int 4)) sNil)))))) (sNot (sTru (sA gIsi (sCons (s2 gIx (sV 0) (sC (.int 0))) (sCons (sC (.ty "str")) sNil))))))
  (sRet (sC (.bl false)))
  sNx)
 (sSeq (sIf (sT (s2 hEq (s2 gIx (sV 0) (sC (.int 0))) (sC (.str "one"))))
  (sRet (sAndV (s2 hEq (sA gLen (sCons (sV 0) sNil)) (sC (.int 2))) (sA (sN 1 F_is_unlike_signs) (sCons (s2 gIx (sV 0) (sC (.int 1))) sNil))))
  sNx)
 (sSeq (sIf (sT (s2 hEq (s2 gIx (sV 0) (sC (.int 0))) (sC (.str "row"))))
  (sRet (sAndV (s2 hEq (sA gLen (sCons (sV 0) sNil)) (sC (.int 2))) (sA (sN 3 F_is_row) (sCons (s2 gIx (sV 0) (sC (.int 1))) (sCons (sC (.int 0)) (sCons (sC (.int 6)) sNil))))))
  sNx)
 (sSeq (sIf (sT (s2 hEq (s2 gIx (sV 0) (sC (.int 0))) (sC (.str "either"))))
  (sRet (sAndV (s2 hEq (sA gLen (sCons (sV 0) sNil)) (sC (.int 2))) (sA (sN 3 F_is_row) (sCons (s2 gIx (sV 0) (sC (.int 1))) (sCons (sC (.int 1)) (sCons (sC (.int 6)) sNil))))))
  sNx)
 (sSeq (sIf (sT (s2 hEq (s2 gIx (sV 0) (sC (.int 0))) (sC (.str "many"))))
  (sRet (s2 hEq (sA gLen (sCons (sV 0) sNil)) (sC (.int 2))))
  sNx)
 (sRet (sAndV (s2 hEq (s2 gIx (sV 0) (sC (.int 0))) (sC (.str "times"))) (sAndV (s2 hEq (sA gLen (sCons (sV 0) sNil)) (sC (.int 4))) (sA (sN 2 F_are_times) (sCons (s2 gIx (sV 0) (sC (.int 2))) (sCons (s2 gIx (sV 0) (sC (.int 3))) sNil)))))))))))
noncomputable def b_are_times (F_is_number_from : SF) : SS :=
 (sRet (sAndV (sA (sN 3 F_is_number_from) (sCons (sV 1) (sCons (sC (.int 0)) (sCons (sC (.int 4)) sNil)))) (sA (sN 3 F_is_number_from) (sCons (sV 0) (sCons (sC (.int 0)) (sCons (sV 1) sNil))))))
section
variable {τ τ1 : Sd} {h h1 h2 h3 h4 : Hd} {x y z w : D} {r : R D} {fa fb fc : SE} {g g' : D → D → Hd → R D}
theorem e_chT (e1 : fa τ h = .ok x h1) (e2 : fb τ h1 = .ok y h2) (e3 : g x y h2 = .ok (.bl true) h3) (e4 : fc τ h3 = .ok w h4) (e5 : g' y w h4 = r) : sCh g g' fa fb fc τ h = r := by
  rw [sCh, e1]; show (fb τ h1).bind _ = r; rw [e2]; show (g x y h2).bind _ = r; rw [e3]; show (fc τ h3).bind _ = r; rw [e4]; exact e5
theorem e_chF (e1 : fa τ h = .ok x h1) (e2 : fb τ h1 = .ok y h2) (e3 : g x y h2 = .ok (.bl false) h3) : sCh g g' fa fb fc τ h = .ok (.bl false) h3 := by
  rw [sCh, e1]; show (fb τ h1).bind _ = _; rw [e2]; show (g x y h2).bind _ = _; rw [e3]; rfl
theorem e_chI {a b c : Int} (e1 : fa τ h = .ok (.int a) h1) (e2 : fb τ h1 = .ok (.int b) h2) (e4 : fc τ h2 = .ok (.int c) h2) : sCh gLe gLe fa fb fc τ h = .ok (.bl (decide (a ≤ b) && decide (b ≤ c))) h2 := by
  by_cases q : a ≤ b
  · rw [e_chT e1 e2 (h3 := h2) (by simp only [gLe, decide_eq_true q]) e4 rfl, decide_eq_true q, Bool.true_and]; rfl
  · rw [e_chF e1 e2 (h3 := h2) (by simp only [gLe, decide_eq_false q]), decide_eq_false q, Bool.false_and]
theorem e_andV {f f' : SE} {b b' : Bool} (e1 : f τ h = .ok (.bl b) h1) (e2 : b = true → f' τ h1 = .ok (.bl b') h1) : sAndV f f' τ h = .ok (.bl (b && b')) h1 := by
  cases b
  · exact e_andVF e1
  · exact e_andVT e1 (e2 rfl)
end
def tyOk (h : Hd) (d : D) : Prop := (tyD d h).isSome = true
def isI : D → Bool | .int _ => true | .bl _ => true | _ => false
def isB : D → Bool | .bl _ => true | _ => false
def isS : D → Bool | .str _ => true | _ => false
def isT : D → Bool | .tup _ => true | _ => false
def numB : D → Bool | .int _ => true | _ => false
theorem ref_ty {h : Hd} {i : Nat} (k : tyOk h (.ref i)) : tyD (.ref i) h = some "list" ∨ tyD (.ref i) h = some "dict" := by
  simp only [tyOk, tyD] at k ⊢
  cases e : h[i]? with
  | none => rw [e] at k; cases k
  | some o => cases o <;> simp
theorem isi_int {h : Hd} {d : D} (k : tyOk h d) : gIsi [d, .ty "int"] h = .ok (.bl (isI d)) h := by
  cases d with
  | ref i => rcases ref_ty k with e | e <;> (simp only [gIsi, e]; rfl)
  | ty _ => cases k
  | rol _ => cases k
  | _ => rfl
theorem isi_bool {h : Hd} {d : D} (k : tyOk h d) : gIsi [d, .ty "bool"] h = .ok (.bl (isB d)) h := by
  cases d with
  | ref i => rcases ref_ty k with e | e <;> (simp only [gIsi, e]; rfl)
  | ty _ => cases k
  | rol _ => cases k
  | _ => rfl
theorem isi_str {h : Hd} {d : D} (k : tyOk h d) : gIsi [d, .ty "str"] h = .ok (.bl (isS d)) h := by
  cases d with
  | ref i => rcases ref_ty k with e | e <;> (simp only [gIsi, e]; rfl)
  | ty _ => cases k
  | rol _ => cases k
  | _ => rfl
theorem isi_tup {h : Hd} {d : D} (k : tyOk h d) : gIsi [d, .ty "tuple"] h = .ok (.bl (isT d)) h := by
  cases d with
  | ref i => rcases ref_ty k with e | e <;> (simp only [gIsi, e]; rfl)
  | ty _ => cases k
  | rol _ => cases k
  | _ => rfl
noncomputable def F_is_number : SF := gcF (bodyR b_is_number 1)
theorem is_number_ok {h : Hd} {d : D} (k : tyOk h d) : F_is_number [d] h = .ok (.bl (numB d)) h := by
  apply gc_same
  apply body_rt
  unfold b_is_number
  refine t_ret2 (e_andV (b' := !isB d) (e_a (e_cons (e_v rfl) (e_cons e_c e_nil)) (isi_int k)) fun _ => e_notV (e_a (e_cons (e_v rfl) (e_cons e_c e_nil)) (isi_bool k))) ?_ rfl
  cases d <;> rfl
noncomputable def F_is_number_from : SF := gcF (bodyR (b_is_number_from F_is_number) 3)
def nfB (d : D) (lo hi : Int) : Bool := match d with | .int i => decide (lo ≤ i) && decide (i ≤ hi) | _ => false
theorem is_number_from_ok {h : Hd} {d : D} {lo hi : Int} (k : tyOk h d) : F_is_number_from [d, .int lo, .int hi] h = .ok (.bl (nfB d lo hi)) h := by
  apply gc_same
  apply body_rt
  unfold b_is_number_from
  refine t_ret2 (e_andV (b' := nfB d lo hi) (e_a (e_cons (e_v rfl) e_nil) (e_call rfl (is_number_ok k))) fun q => ?_) ?_ rfl
  · cases d with
    | int i => exact e_chI (e_v rfl) (e_v rfl) (e_v rfl)
    | _ => cases q
  · cases d <;> simp [numB, nfB]
noncomputable def F_are_times : SF := gcF (bodyR (b_are_times F_is_number_from) 2)
def nfD (lo hi : D) : Bool := match hi with | .int j => nfB lo 0 j | _ => false
def timesB (lo hi : D) : Bool := nfB hi 0 4 && nfD lo hi
theorem are_times_ok {h : Hd} {lo hi : D} (k1 : tyOk h lo) (k2 : tyOk h hi) : F_are_times [lo, hi] h = .ok (.bl (timesB lo hi)) h := by
  apply gc_same
  apply body_rt
  unfold b_are_times
  refine t_ret (e_andV (b' := nfD lo hi) (e_a (e_cons (e_v rfl) (e_cons e_c (e_cons e_c e_nil))) (e_call rfl (is_number_from_ok k2))) fun q => ?_)
  cases hi with
  | int j => exact e_a (e_cons (e_v rfl) (e_cons e_c (e_cons (e_v rfl) e_nil))) (e_call rfl (is_number_from_ok k1))
  | _ => cases q
noncomputable def F_is_row : SF := gcF (bodyR b_is_row 3)
def rowB (d : D) (lo hi : Int) : Bool := match d with | .tup xs => decide (lo ≤ (xs.length : Int)) && decide ((xs.length : Int) ≤ hi) | _ => false
theorem is_row_ok {h : Hd} {d : D} {lo hi : Int} (k : tyOk h d) : F_is_row [d, .int lo, .int hi] h = .ok (.bl (rowB d lo hi)) h := by
  apply gc_same
  apply body_rt
  unfold b_is_row
  refine t_ret2 (e_andV (b' := rowB d lo hi) (e_a (e_cons (e_v rfl) (e_cons e_c e_nil)) (isi_tup k)) fun q => ?_) ?_ rfl
  · cases d with
    | tup xs => exact e_chI (e_v rfl) (e_a (e_cons (e_v rfl) e_nil) rfl) (e_v rfl)
    | _ => cases q
  · cases d <;> simp [isT, rowB]
def signB (c : Nat) : Bool := (c == 10) || ((decide (32 ≤ c) && decide (c ≤ 126)) && (c != 37))
theorem str1_eq (c e : Nat) : ((⟨#[c]⟩ : Str) == ⟨#[e]⟩) = (c == e) := by
  by_cases q : c = e
  · subst q; simp
  · rw [beq_eq_false_iff_ne.mpr q]
    exact beq_eq_false_iff_ne.mpr fun z => q (by injection z with z; injection z with z; injection z)
noncomputable def F_is_sign : SF := gcF (bodyR b_is_sign 1)
theorem eq_str (x y : Str) (h : Hd) : hEq (.str x) (.str y) h = .ok (.bl (x == y)) h := by simp [hEq, pur, eqD]
theorem ne_int (i j : Int) (h : Hd) : hNe (.int i) (.int j) h = .ok (.bl (!(i == j))) h := by simp [hNe, pur, eqD]
theorem is_sign_ok (c : Nat) (h : Hd) : F_is_sign [.str ⟨#[c]⟩] h = .ok (.bl (signB c)) h := by
  apply gc_same
  apply body_rt
  unfold b_is_sign
  have l1 : gLen [.str ⟨#[c]⟩] h = .ok (.int 1) h := by
    show (if (1 : Nat) ≤ LINE then R.ok (D.int 1) h else .no) = _
    rw [if_pos (by decide)]
  refine t_seq (t_ifF (e_orF (e_not (b := true) (e_tru (e_a (e_cons (e_v rfl) (e_cons e_c e_nil)) rfl) rfl)) (e_T (e_2 (e_a (e_cons (e_v rfl) e_nil) l1) e_c (ne_int _ _ _)))) t_nx) ?_
  have nl : (PySem.Str.ofString "\n") = ⟨#[10]⟩ := rfl
  by_cases q : c = 10
  · subst q
    exact t_seqR (t_ifT (e_T (e_2 (e_v rfl) e_c (by rw [eq_str]; rfl))) (t_ret e_c))
  · refine t_seq (t_ifF (e_T (e_2 (e_v rfl) e_c (by rw [eq_str, nl, str1_eq, beq_eq_false_iff_ne.mpr q]))) t_nx) ?_
    have k1 : gLe (.str " ") (.str ⟨#[c]⟩) h = .ok (.bl (decide (32 ≤ c))) h := by
      show R.ok (D.bl (!decide ([c] < [32]))) h = _
      have : decide ([c] < [32]) = !decide (32 ≤ c) := by
        rw [← decide_not]; apply decide_eq_decide.mpr; rw [List.cons_lt_cons_iff]; simp
      rw [this, Bool.not_not]
    have k2 : gLe (.str ⟨#[c]⟩) (.str "~") h = .ok (.bl (decide (c ≤ 126))) h := by
      show R.ok (D.bl (!decide ([126] < [c]))) h = _
      have : decide ([126] < [c]) = !decide (c ≤ 126) := by
        rw [← decide_not]; apply decide_eq_decide.mpr; rw [List.cons_lt_cons_iff]; simp
      rw [this, Bool.not_not]
    have ch : sCh gLe gLe (sC (.str " ")) (sV 0) (sC (.str "~")) [some (.str ⟨#[c]⟩)] h = .ok (.bl (decide (32 ≤ c) && decide (c ≤ 126))) h := by
      cases e : decide (32 ≤ c) with
      | true => rw [e] at k1; exact e_chT e_c (e_v rfl) k1 e_c k2
      | false => rw [e] at k1; exact e_chF e_c (e_v rfl) k1
    refine t_ret2 (e_andV (b' := c != 37) ch fun _ => e_2 (e_a (e_cons (e_v rfl) e_nil) (by show (if (1 : Nat) = 1 then R.ok (D.int c) h else .no) = _; rw [if_pos rfl])) e_c ?_) ?_ rfl
    · rw [ne_int]
      congr 3
      by_cases z : c = 37
      · subst z; rfl
      · rw [beq_eq_false_iff_ne.mpr (show (c : Int) ≠ 37 by omega)]; simp [z]
    · simp [signB, q]
noncomputable def F_is_unlike_signs : SF := gcF (bodyR (b_is_unlike_signs F_is_sign) 1)
def unlB (x : Str) : Bool := (decide ((1 : Int) ≤ (x.length : Int)) && decide ((x.length : Int) ≤ 6)) && (((((L2.dedup x.cps.toList).length : Nat) : Int) == (x.length : Int)) && (x.cps.toList.map signB).all id)
def unlD : D → Bool | .str x => unlB x | _ => false
theorem is_unlike_ok {h : Hd} {d : D} (k : tyOk h d) (k2 : ∀ x, d = .str x → x.length ≤ 1000) : F_is_unlike_signs [d] h = .ok (.bl (unlD d)) h := by
  have is := isi_str k
  cases hs : isS d with
  | false =>
    rw [hs] at is
    apply gc_same
    apply body_rt
    unfold b_is_unlike_signs
    refine t_seqR (t_ifT (e_orT (e_not (b := false) (e_tru (e_a (e_cons (e_v rfl) (e_cons e_c e_nil)) is) rfl))) (t_ret2 e_c ?_ rfl))
    cases d with
    | str x => cases hs
    | _ => rfl
  | true =>
    cases d with
    | str x =>
      have lx := k2 x rfl
      have gl : ∀ h', gLen [.str x] h' = .ok (.int x.length) h' := fun h' => by
        show (if x.length ≤ LINE then R.ok (D.int x.length) h' else .no) = _
        rw [if_pos (by show _ ≤ 16777216; omega)]
      have ch : sCh gLe gLe (sC (.int 1)) (sA gLen (sCons (sV 0) sNil)) (sC (.int 6)) [some (.str x)] h = .ok (.bl (decide ((1 : Int) ≤ (x.length : Int)) && decide ((x.length : Int) ≤ 6))) h := e_chI e_c (e_a (e_cons (e_v rfl) e_nil) (gl h)) e_c
      cases hl : (decide ((1 : Int) ≤ (x.length : Int)) && decide ((x.length : Int) ≤ 6)) with
      | false =>
        apply gc_same
        apply body_rt
        unfold b_is_unlike_signs
        rw [hl] at ch
        refine t_seqR (t_ifT (e_orF (e_not (b := true) (e_tru (e_a (e_cons (e_v rfl) (e_cons e_c e_nil)) is) rfl)) (e_not (b := false) (e_T ch))) (t_ret2 e_c ?_ rfl))
        simp only [unlD, unlB, hl, Bool.false_and]
      | true =>
        rw [hl] at ch
        have mp : ∀ (cs : List Nat) (h' : Hd), mapR (fun _ => True) (bindT t1 (sA (sN 1 F_is_sign) (sCons (sV 0) sNil)) []) (cs.map fun c => D.str ⟨#[c]⟩) h' = .ok ((cs.map signB).map D.bl) h' := by
          intro cs h'
          induction cs with
          | nil => simp [mapR]
          | cons c cs ih =>
            rw [List.map_cons, mapR, if_pos True.intro]
            rw [show bindT t1 (sA (sN 1 F_is_sign) (sCons (sV 0) sNil)) [] (.str ⟨#[c]⟩) h' = .ok (.bl (signB c)) h' from bind_t1 (e_a (e_cons (e_v rfl) e_nil) (e_call rfl (is_sign_ok c h')))]
            show (mapR _ _ _ _).bind _ = _
            rw [ih]; rfl
        have ga : gAll [.ref h.length] (h ++ [.lst ((x.cps.toList.map signB).map D.bl)]) = .ok (.bl ((x.cps.toList.map signB).all id)) (h ++ [.lst ((x.cps.toList.map signB).map D.bl)]) := by
          simp only [gAll, get_last, blsD_map]
        have gs : gLenSet (.str x) h = .ok (.int ((L2.dedup x.cps.toList).length : Nat)) h := by simp only [gLenSet, if_pos lx]
        have lc : (signsD x).length ≤ 16777216 := by
          have : (signsD x).length = x.length := by simp only [signsD, List.length_map]; exact len_l x
          omega
        cases hd : ((((L2.dedup x.cps.toList).length : Nat) : Int) == (x.length : Int)) with
        | false =>
          apply gc_same
          apply body_rt
          unfold b_is_unlike_signs
          refine t_seq (t_ifF (e_orF (e_not (b := true) (e_tru (e_a (e_cons (e_v rfl) (e_cons e_c e_nil)) is) rfl)) (e_not (b := true) (e_T ch))) t_nx) ?_
          refine t_ret2 (e_andVF (e_2 (e_1 (e_v rfl) gs) (e_a (e_cons (e_v rfl) e_nil) (gl h)) (by rw [eq_int, hd]))) ?_ rfl
          simp only [unlD, unlB, hl, hd, Bool.false_and, Bool.and_false]
        | true =>
          refine gc_pure (g := [.lst ((x.cps.toList.map signB).map D.bl)]) ?_ (.inl (by simp [clo]))
          apply body_rt
          unfold b_is_unlike_signs
          refine t_seq (t_ifF (e_orF (e_not (b := true) (e_tru (e_a (e_cons (e_v rfl) (e_cons e_c e_nil)) is) rfl)) (e_not (b := true) (e_T ch))) t_nx) ?_
          refine t_ret2 (e_andVT (e_2 (e_1 (e_v rfl) gs) (e_a (e_cons (e_v rfl) e_nil) (gl h)) (by rw [eq_int, hd])) (e_a (e_cons (e_comp (e_it (e_v rfl) rfl) lc (mp _ _)) e_nil) ga)) ?_ rfl
          simp only [unlD, unlB, hl, hd, Bool.true_and]
    | _ => cases hs
end Q4
set_option Elab.async false
set_option linter.all false
set_option maxRecDepth 100000
set_option maxHeartbeats 4000000
namespace Q4
open PySem PySem.Spec L2 MI PEN SHF
open SHP (Sh)
local macro_rules | `(tactic| walk_at "eq") => `(tactic| first | exact rfl | (simp only [List.set_cons_zero, List.set_cons_succ, List.set_set, *] <;> exact rfl))
local macro_rules | `(tactic| walk_at "g") => `(tactic| first | exact rfl | (simp only [gIx, seqD, atI_0, atI_1, atI_2, atI_3, gGt, gGe, gLt, gLe, gAdd, MI.gSub, gMod, gDiv, gPow, gAbs, gInt, gLen, gMax2, gMin2, MI.gTup, MI.gLst, tru, hEq, hNe, pur, eqD, gIs, gIsNot, isNon, gNeg, gIAdd, gMul, List.length_map, *, ite_true, ite_false, if_true, if_false, reduceIte, decide_true, decide_false, and_self, and_true, true_and, Bool.true_eq_false, Nat.reduceLeDiff, List.length_cons, List.length_nil, Nat.reduceAdd, Int.reduceLE, Int.reduceLT, ne_eq, not_false_eq_true, not_true_eq_false] <;> exact rfl) | assumption)
local macro_rules | `(tactic| walk_at "p") => `(tactic| first | exact rfl | (simp only [put, *, List.length_cons, List.length_nil, Nat.reduceAdd, ix31, ix32, ix30, ix10] <;> exact rfl))
local macro_rules | `(tactic| walk_at "ev") => `(tactic| first
  | (with_reducible exact e_c)
  | ((with_reducible apply e_v); exact rfl)
  | (with_reducible exact e_nil)
  | (with_reducible exact e_oN)
  | ((with_reducible apply e_2); walk_at "ev"; walk_at "ev"; walk_at "g")
  | ((with_reducible apply e_1); walk_at "ev"; walk_at "g")
  | ((with_reducible apply e_a); walk_at "ev"; first | ((with_reducible apply e_call); exact rfl; first | assumption | walk_at "g") | walk_at "g")
  | ((with_reducible apply e_cons); walk_at "ev"; walk_at "ev")
  | ((with_reducible apply e_T); walk_at "ev")
  | ((with_reducible apply e_not); walk_at "ev")
  | ((with_reducible apply e_tru); walk_at "ev"; walk_at "g")
  | ((with_reducible apply e_oS); walk_at "ev")
  | ((with_reducible apply e_sl); walk_at "ev"; walk_at "ev"; walk_at "ev"; walk_at "g")
  | ((with_reducible apply e_notV); walk_at "ev")
  | ((with_reducible apply e_andF); walk_at "ev")
  | ((with_reducible apply e_andT); walk_at "ev"; walk_at "ev")
  | ((with_reducible apply e_orT); walk_at "ev")
  | ((with_reducible apply e_orF); walk_at "ev"; walk_at "ev")
  | ((with_reducible apply e_andVF); walk_at "ev")
  | ((with_reducible apply e_andVT); walk_at "ev"; walk_at "ev")
  | ((with_reducible apply e_orVT); walk_at "ev")
  | ((with_reducible apply e_orVF); walk_at "ev"; walk_at "ev")
  | ((with_reducible apply e_ifT); walk_at "ev"; walk_at "ev")
  | ((with_reducible apply e_ifF); walk_at "ev"; walk_at "ev"))
local macro_rules | `(tactic| walk_at "st") => `(tactic| first
  | (with_reducible exact t_nx)
  | ((with_reducible apply t_set2); walk_at "ev"; walk_at "eq"; walk_at "eq")
  | ((with_reducible apply t_ret2); walk_at "ev"; walk_at "eq"; walk_at "eq")
  | ((with_reducible apply t_drop); walk_at "ev")
  | ((with_reducible apply t_put); walk_at "ev"; walk_at "ev"; walk_at "ev"; walk_at "p")
  | ((with_reducible apply t_ifF); walk_at "ev"; walk_at "st")
  | ((with_reducible apply t_ifT); walk_at "ev"; walk_at "st")
  | ((with_reducible apply t_seq); walk_at "st"; walk_at "st")
  | ((with_reducible apply t_seqR); walk_at "st"))
mutual
def alD (h : Hd) : D → Prop
  | .tup xs => alDs h xs
  | .str x => x.length ≤ 1000
  | .ref i => i < h.length
  | .rol _ => False
  | .ty _ => False
  | .non => True
  | .bl _ => True
  | .int _ => True
def alDs (h : Hd) : List D → Prop
  | [] => True
  | x :: xs => alD h x ∧ alDs h xs
end
theorem alDs_mem {h : Hd} : ∀ {xs : List D}, alDs h xs ↔ ∀ x ∈ xs, alD h x
  | [] => by simp [alDs]
  | x :: xs => by simp [alDs, alDs_mem]
theorem al_ty {h : Hd} {d : D} (a : alD h d) : tyOk h d := by
  cases d with
  | ref i =>
    simp only [alD] at a
    simp only [tyOk, tyD, List.getElem?_eq_getElem a]
    cases h[i] <;> rfl
  | rol _ => simp [alD] at a
  | ty _ => simp [alD] at a
  | _ => rfl
theorem al_str {h : Hd} {d : D} (a : alD h d) : ∀ x, d = .str x → x.length ≤ 1000 := fun x e => by subst e; simpa [alD] using a
def formR (w : Str) (r : List D) : Bool :=
  if w == "one" then (match r with | [x] => unlD x | _ => false)
  else if w == "row" then (match r with | [x] => rowB x 0 6 | _ => false)
  else if w == "either" then (match r with | [x] => rowB x 1 6 | _ => false)
  else if w == "many" then (match r with | [_] => true | _ => false)
  else (w == "times") && (match r with | [_, lo, hi] => timesB lo hi | _ => false)
def formB : D → Bool
  | .tup (.str w :: r) => formR w r
  | _ => false
theorem formR_len {w : Str} {r : List D} (h : r.length ≠ 1) (h3 : r.length ≠ 3) : formR w r = false := by
  unfold formR
  match r, h, h3 with
  | [], _, _ => simp
  | [_], h, _ => exact (h rfl).elim
  | [_, _], _, _ => simp
  | [_, _, _], _, h => exact (h rfl).elim
  | _ :: _ :: _ :: _ :: _, _, _ => simp
noncomputable def F_is_form : SF := gcF (bodyR (b_is_form F_are_times F_is_row F_is_unlike_signs) 1)
theorem len_tup (xs : List D) (h : Hd) : gLen [.tup xs] h = .ok (.int xs.length) h := rfl
theorem is_form_ok {h : Hd} {d : D} (a : alD h d) : F_is_form [d] h = .ok (.bl (formB d)) h := by
  apply gc_same
  apply body_rt
  unfold b_is_form
  have row := is_row_ok (lo := 2) (hi := 4) (al_ty a)
  cases hr : rowB d 2 4 with
  | false =>
    rw [hr] at row
    refine t_seqR (t_ifT (e_orT (e_not (b := false) (e_tru (e_a (e_cons (e_v rfl) (e_cons e_c (e_cons e_c e_nil))) (e_call rfl row)) rfl))) (t_ret2 e_c ?_ rfl))
    cases d with
    | tup xs =>
      cases xs with
      | nil => rfl
      | cons x r =>
        cases x with
        | str w =>
          show D.bl false = .bl (formR w r)
          rw [formR_len]
          · intro z; simp [rowB, z] at hr
          · intro z; simp [rowB, z] at hr
        | _ => rfl
    | _ => rfl
  | true =>
    rw [hr] at row
    cases d with
    | tup xs =>
      obtain ⟨x, b, r, rfl, lr⟩ : ∃ x b r, xs = x :: b :: r ∧ r.length ≤ 2 := by
        simp only [rowB, Bool.and_eq_true, decide_eq_true_eq] at hr
        match xs, hr with
        | [], hr => simp at hr
        | [_], hr => simp at hr
        | x :: b :: r, hr => exact ⟨x, b, r, rfl, by simp at hr; omega⟩
      simp only [alD, alDs] at a
      obtain ⟨ax, ab, ar⟩ := a
      have i0 : ∀ h', gIx (.tup (x :: b :: r)) (.int 0) h' = .ok x h' := fun h' => by simp only [gIx, seqD, atI_0]
      have i1 : ∀ h', gIx (.tup (x :: b :: r)) (.int 1) h' = .ok b h' := fun h' => by simp only [gIx, seqD, atI_1]
      have si := isi_str (al_ty ax)
      have fst := e_a (e_cons (e_v (τ := [some (.tup (x :: b :: r))]) (i := 0) (h := h) rfl) (e_cons (f := sC (.int 2)) e_c (e_cons (f := sC (.int 4)) e_c e_nil))) (e_call (n := 3) rfl row)
      cases hs : isS x with
      | false =>
        rw [hs] at si
        refine t_seqR (t_ifT (e_orF (e_not (b := true) (e_tru fst rfl)) (e_not (b := false) (e_tru (e_a (e_cons (e_2 (e_v rfl) e_c (i0 _)) (e_cons e_c e_nil)) si) rfl))) (t_ret2 e_c ?_ rfl))
        cases x with
        | str w => cases hs
        | _ => rfl
      | true =>
        rw [hs] at si
        cases x with
        | str w =>
          refine t_seq (t_ifF (e_orF (e_not (b := true) (e_tru fst rfl)) (e_not (b := true) (e_tru (e_a (e_cons (e_2 (e_v rfl) e_c (i0 _)) (e_cons e_c e_nil)) si) rfl))) t_nx) ?_
          have tst : ∀ s : Str, sT (s2 hEq (s2 gIx (sV 0) (sC (.int 0))) (sC (.str s))) [some (.tup (.str w :: b :: r))] h = .ok (w == s) h := fun s => e_T (e_2 (e_2 (e_v rfl) e_c (i0 _)) e_c (eq_str _ _ _))
          have tsv : ∀ s : Str, s2 hEq (s2 gIx (sV 0) (sC (.int 0))) (sC (.str s)) [some (.tup (.str w :: b :: r))] h = .ok (.bl (w == s)) h := fun s => e_2 (e_2 (e_v rfl) e_c (i0 _)) e_c (eq_str _ _ _)
          have tl : ∀ k : Int, s2 hEq (sA gLen (sCons (sV 0) sNil)) (sC (.int k)) [some (.tup (.str w :: b :: r))] h = .ok (.bl (((.str w :: b :: r : List D).length : Int) == k)) h := fun k => e_2 (e_a (e_cons (e_v rfl) e_nil) (len_tup _ _)) e_c (eq_int _ _ _)
          have l2 : (((.str w :: b :: r : List D).length : Int) == 2) = (match (b :: r : List D) with | [_] => true | _ => false) := by
            cases r with
            | nil => rfl
            | cons c r => simp; omega
          show (sSeq _ _) [some (.tup (.str w :: b :: r))] h = .rt (.bl (formR w (b :: r))) h
          unfold formR
          cases h1 : (w == "one") with
          | true =>
            refine t_seqR (t_ifT (by rw [tst, h1]) (t_ret2 (e_andV (b' := unlD b) (tl 2) fun _ => e_a (e_cons (e_2 (e_v rfl) e_c (i1 _)) e_nil) (e_call rfl (is_unlike_ok (al_ty ab) (al_str ab)))) ?_ rfl))
            rw [l2, if_pos rfl]
            cases r <;> simp
          | false =>
          refine t_seq (t_ifF (by rw [tst, h1]) t_nx) ?_
          rw [if_neg (by decide)]
          cases h2 : (w == "row") with
          | true =>
            refine t_seqR (t_ifT (by rw [tst, h2]) (t_ret2 (e_andV (b' := rowB b 0 6) (tl 2) fun _ => e_a (e_cons (e_2 (e_v rfl) e_c (i1 _)) (e_cons e_c (e_cons e_c e_nil))) (e_call rfl (is_row_ok (al_ty ab)))) ?_ rfl))
            rw [l2, if_pos rfl]
            cases r <;> simp
          | false =>
          refine t_seq (t_ifF (by rw [tst, h2]) t_nx) ?_
          rw [if_neg (by decide)]
          cases h3 : (w == "either") with
          | true =>
            refine t_seqR (t_ifT (by rw [tst, h3]) (t_ret2 (e_andV (b' := rowB b 1 6) (tl 2) fun _ => e_a (e_cons (e_2 (e_v rfl) e_c (i1 _)) (e_cons e_c (e_cons e_c e_nil))) (e_call rfl (is_row_ok (al_ty ab)))) ?_ rfl))
            rw [l2, if_pos rfl]
            cases r <;> simp
          | false =>
          refine t_seq (t_ifF (by rw [tst, h3]) t_nx) ?_
          rw [if_neg (by decide)]
          cases h4 : (w == "many") with
          | true =>
            refine t_seqR (t_ifT (by rw [tst, h4]) (t_ret2 (tl 2) ?_ rfl))
            rw [l2, if_pos rfl]
          | false =>
          refine t_seq (t_ifF (by rw [tst, h4]) t_nx) ?_
          rw [if_neg (by decide)]
          match r, lr, ar with
          | [], _, _ =>
            refine t_ret2 (e_andV (b' := false) (tsv "times") fun _ => e_andVF (tl 4)) ?_ rfl
            simp
          | [_], _, _ =>
            refine t_ret2 (e_andV (b' := false) (tsv "times") fun _ => e_andVF (tl 4)) ?_ rfl
            simp
          | [lo, hi], _, ar =>
            simp only [alDs] at ar
            refine t_ret2 (e_andV (b' := timesB lo hi) (tsv "times") fun _ => e_andVT (tl 4) (e_a (e_cons (e_2 (e_v rfl) e_c (by simp only [gIx, seqD, atI_2] <;> exact rfl)) (e_cons (e_2 (e_v rfl) e_c (by simp only [gIx, seqD, atI_3] <;> exact rfl)) e_nil)) (e_call rfl (are_times_ok (al_ty ar.1) (al_ty ar.2.1))))) ?_ rfl
            rfl
        | _ => cases hs
    | _ => cases hr
theorem form_cases {d : D} (f : formB d = true) : (∃ x, d = .tup [.str "one", x] ∧ unlD x = true) ∨ (∃ ps, d = .tup [.str "row", .tup ps]) ∨ (∃ ps, d = .tup [.str "either", .tup ps]) ∨ (∃ x, d = .tup [.str "many", x]) ∨ ∃ x lo hi, d = .tup [.str "times", x, lo, hi] := by
  match d, f with
  | .tup (.str w :: r), f =>
    simp only [formB, formR] at f
    split at f
    · rename_i e; rw [beq_iff_eq] at e; subst e
      match r, f with
      | [x], f => exact .inl ⟨x, rfl, f⟩
    · split at f
      · rename_i e; rw [beq_iff_eq] at e; subst e
        match r, f with
        | [x], f =>
          cases x with
          | tup ps => exact .inr (.inl ⟨ps, rfl⟩)
          | _ => cases f
      · split at f
        · rename_i e; rw [beq_iff_eq] at e; subst e
          match r, f with
          | [x], f =>
            cases x with
            | tup ps => exact .inr (.inr (.inl ⟨ps, rfl⟩))
            | _ => cases f
        · split at f
          · rename_i e; rw [beq_iff_eq] at e; subst e
            match r, f with
            | [x], f => exact .inr (.inr (.inr (.inl ⟨x, rfl⟩)))
          · rw [Bool.and_eq_true, beq_iff_eq] at f
            obtain ⟨rfl, f⟩ := f
            match r, f with
            | [x, lo, hi], f => exact .inr (.inr (.inr (.inr ⟨x, lo, hi, rfl⟩)))
def kidsD : D → List D
  | .tup [.str w, x] => if w == "one" then [] else if w == "many" then [x] else (match x with | .tup ps => ps | _ => [])
  | .tup [_, x, _, _] => [x]
  | _ => []
theorem innerD_ok {d : D} (h : Hd) (f : formB d = true) : F_inner [d] h = .ok (.tup (kidsD d)) h := by
  apply gc_same
  apply body_rt
  unfold SHF.b_inner
  rcases form_cases f with ⟨x, rfl, _⟩ | ⟨ps, rfl⟩ | ⟨ps, rfl⟩ | ⟨x, rfl⟩ | ⟨x, lo, hi, rfl⟩
  · show _ = Fl.rt (.tup []) h
    walk_at "st"
  · show _ = Fl.rt (.tup ps) h
    walk_at "st"
  · show _ = Fl.rt (.tup ps) h
    walk_at "st"
  · show _ = Fl.rt (.tup [x]) h
    walk_at "st"
  · show _ = Fl.rt (.tup [x]) h
    walk_at "st"
theorem kids_al {h : Hd} {d : D} (f : formB d = true) (a : alD h d) : ∀ x ∈ kidsD d, alD h x := by
  rcases form_cases f with ⟨x, rfl, _⟩ | ⟨ps, rfl⟩ | ⟨ps, rfl⟩ | ⟨x, rfl⟩ | ⟨x, lo, hi, rfl⟩
  · intro y hy; cases hy
  · simp only [alD, alDs, true_and, and_true] at a; exact alDs_mem.mp a.2
  · simp only [alD, alDs, true_and, and_true] at a; exact alDs_mem.mp a.2
  · simp only [alD, alDs, true_and, and_true] at a; intro y hy; rw [List.mem_singleton.mp hy]; exact a.2
  · simp only [alD, alDs] at a; intro y hy; rw [List.mem_singleton.mp hy]; exact a.2.1
end Q4
set_option Elab.async false
set_option linter.all false
set_option maxRecDepth 100000
set_option maxHeartbeats 4000000
namespace Q4
open PySem PySem.Spec L2 MI PEN SHF
open SHP (Sh)
local macro_rules | `(tactic| walk_at "eq") => `(tactic| first | exact rfl | (simp only [List.set_cons_zero, List.set_cons_succ, List.set_set, *] <;> exact rfl))
local macro_rules | `(tactic| walk_at "g") => `(tactic| first | exact rfl | (simp only [gIx, seqD, atI_0, atI_1, atI_2, atI_3, gGt, gGe, gLt, gLe, gAdd, MI.gSub, gMod, gDiv, gPow, gAbs, gInt, gLen, gMax2, gMin2, MI.gTup, MI.gLst, tru, hEq, hNe, pur, eqD, gIs, gIsNot, isNon, gNeg, gIAdd, gMul, List.length_map, *, ite_true, ite_false, if_true, if_false, reduceIte, decide_true, decide_false, and_self, and_true, true_and, Bool.true_eq_false, Nat.reduceLeDiff, List.length_cons, List.length_nil, Nat.reduceAdd, Int.reduceLE, Int.reduceLT, ne_eq, not_false_eq_true, not_true_eq_false] <;> exact rfl) | assumption)
local macro_rules | `(tactic| walk_at "p") => `(tactic| first | exact rfl | (simp only [put, *, List.length_cons, List.length_nil, Nat.reduceAdd, ix31, ix32, ix30, ix10] <;> exact rfl))
local macro_rules | `(tactic| walk_at "ev") => `(tactic| first
  | (with_reducible exact e_c)
  | ((with_reducible apply e_v); exact rfl)
  | (with_reducible exact e_nil)
  | (with_reducible exact e_oN)
  | ((with_reducible apply e_2); walk_at "ev"; walk_at "ev"; walk_at "g")
  | ((with_reducible apply e_1); walk_at "ev"; walk_at "g")
  | ((with_reducible apply e_a); walk_at "ev"; first | ((with_reducible apply e_call); exact rfl; first | assumption | walk_at "g") | walk_at "g")
  | ((with_reducible apply e_cons); walk_at "ev"; walk_at "ev")
  | ((with_reducible apply e_T); walk_at "ev")
  | ((with_reducible apply e_not); walk_at "ev")
  | ((with_reducible apply e_tru); walk_at "ev"; walk_at "g")
  | ((with_reducible apply e_oS); walk_at "ev")
  | ((with_reducible apply e_sl); walk_at "ev"; walk_at "ev"; walk_at "ev"; walk_at "g")
  | ((with_reducible apply e_notV); walk_at "ev")
  | ((with_reducible apply e_andF); walk_at "ev")
  | ((with_reducible apply e_andT); walk_at "ev"; walk_at "ev")
  | ((with_reducible apply e_orT); walk_at "ev")
  | ((with_reducible apply e_orF); walk_at "ev"; walk_at "ev")
  | ((with_reducible apply e_andVF); walk_at "ev")
  | ((with_reducible apply e_andVT); walk_at "ev"; walk_at "ev")
  | ((with_reducible apply e_orVT); walk_at "ev")
  | ((with_reducible apply e_orVF); walk_at "ev"; walk_at "ev")
  | ((with_reducible apply e_ifT); walk_at "ev"; walk_at "ev")
  | ((with_reducible apply e_ifF); walk_at "ev"; walk_at "ev"))
local macro_rules | `(tactic| walk_at "st") => `(tactic| first
  | (with_reducible exact t_nx)
  | ((with_reducible apply t_set2); walk_at "ev"; walk_at "eq"; walk_at "eq")
  | ((with_reducible apply t_ret2); walk_at "ev"; walk_at "eq"; walk_at "eq")
  | ((with_reducible apply t_drop); walk_at "ev")
  | ((with_reducible apply t_put); walk_at "ev"; walk_at "ev"; walk_at "ev"; walk_at "p")
  | ((with_reducible apply t_ifF); walk_at "ev"; walk_at "st")
  | ((with_reducible apply t_ifT); walk_at "ev"; walk_at "st")
  | ((with_reducible apply t_seq); walk_at "st"; walk_at "st")
  | ((with_reducible apply t_seqR); walk_at "st"))
def pcGo (f : D → Int → Int) (most : Int) : List D → Int → Int
  | [], c => c
  | x :: xs, c => if f x (most - c) = 0 then 0 else pcGo f most xs (c + f x (most - c))
def pc : Nat → D → Int → Int → Int
  | 0, _, _, _ => 0
  | n + 1, d, deep, most => if deep < 1 ∨ most < 1 ∨ formB d = false then 0 else pcGo (fun x m => pc n x (deep - 1) m) most (kidsD d) 1
theorem pcGo_nn {f : D → Int → Int} {most : Int} (hf : ∀ x m, 0 ≤ f x m) : ∀ (xs : List D) (c : Int), 0 ≤ c → 0 ≤ pcGo f most xs c
  | [], c, h => h
  | x :: xs, c, h => by
    rw [pcGo]
    split
    · exact Int.le_refl _
    · exact pcGo_nn hf xs _ (by have := hf x (most - c); omega)
theorem pc_nn : ∀ (n : Nat) (d : D) (deep most : Int), 0 ≤ pc n d deep most
  | 0, _, _, _ => Int.le_refl _
  | n + 1, d, deep, most => by
    rw [pc]
    split
    · exact Int.le_refl _
    · exact pcGo_nn (fun x m => pc_nn n x _ m) _ _ (by decide)
theorem t_aug {i : Nat} {g : D → D → Hd → R D} {f : SE} {τ : Sd} {h h1 h2 : Hd} {x y z : D} (e0 : τ[i]? = some (some x)) (e1 : f τ h = .ok y h1) (e2 : g x y h1 = .ok z h2) : sAug i g f τ h = .nx (τ.set i (some z)) h2 := by
  rw [sAug, e0]; show (f τ h).fl _ = _; rw [e1]; show (g x y h1).fl _ = _; rw [e2]; rfl
noncomputable def F_parts_count : Nat → SF
  | 0 => fun _ _ => .no
  | n + 1 => gcF (bodyR (b_parts_count F_inner F_is_form (F_parts_count n)) 6)
theorem parts_count_ok : ∀ (n : Nat) (d : D) (deep most : Int) (h : Hd), alD h d → 0 ≤ deep → deep < n → F_parts_count n [d, .int deep, .int most] h = .ok (.int (pc n d deep most)) h
  | 0, d, deep, most, h, a, l0, l => by exact absurd l (by omega)
  | n + 1, d, deep, most, h, a, l0, l => by
    apply gc_same
    apply body_rt
    unfold b_parts_count
    have fm := is_form_ok a
    by_cases c1 : deep < 1
    · refine t_seqR (t_ifT (e_orT (e_T (e_2 (e_v rfl) e_c (lt_yes c1)))) (t_ret2 e_c ?_ rfl))
      rw [pc, if_pos (.inl c1)]
    by_cases c2 : most < 1
    · refine t_seqR (t_ifT (e_orF (e_T (e_2 (e_v rfl) e_c (lt_no c1))) (e_orT (e_T (e_2 (e_v rfl) e_c (lt_yes c2))))) (t_ret2 e_c ?_ rfl))
      rw [pc, if_pos (.inr (.inl c2))]
    cases hf : formB d with
    | false =>
      rw [hf] at fm
      refine t_seqR (t_ifT (e_orF (e_T (e_2 (e_v rfl) e_c (lt_no c1))) (e_orF (e_T (e_2 (e_v rfl) e_c (lt_no c2))) (e_not (b := false) (e_tru (e_a (e_cons (e_v rfl) e_nil) (e_call rfl fm)) rfl)))) (t_ret2 e_c ?_ rfl))
      rw [pc, if_pos (.inr (.inr hf))]
    | true =>
      rw [hf] at fm
      refine t_seq (t_ifF (e_orF (e_T (e_2 (e_v rfl) e_c (lt_no c1))) (e_orF (e_T (e_2 (e_v rfl) e_c (lt_no c2))) (e_not (b := true) (e_tru (e_a (e_cons (e_v rfl) e_nil) (e_call rfl fm)) rfl)))) t_nx) ?_
      have hk := kids_al hf a
      have go : ∀ (ks : List D) (c : Int) (t4 t5 : Option D), (∀ x ∈ ks, alD h x) → 1 ≤ c →
          (pcGo (fun x m => pc n x (deep - 1) m) most ks c = 0 ∧ forL (fun _ => True) (kN 4) (sSeq (sSet 5 (sA (sN 3 (F_parts_count n)) (sCons (sV 4) (sCons (s2 gSub (sV 1) (sC (.int 1))) (sCons (s2 gSub (sV 2) (sV 3)) sNil))))) (sSeq (sIf (sT (s2 hEq (sV 5) (sC (.int 0)))) (sRet (sC (.int 0))) sNx) (sAug 3 gIAdd (sV 5)))) ks [some d, some (.int deep), some (.int most), some (.int c), t4, t5] h = .rt (.int 0) h) ∨
          (∃ t4' t5', forL (fun _ => True) (kN 4) (sSeq (sSet 5 (sA (sN 3 (F_parts_count n)) (sCons (sV 4) (sCons (s2 gSub (sV 1) (sC (.int 1))) (sCons (s2 gSub (sV 2) (sV 3)) sNil))))) (sSeq (sIf (sT (s2 hEq (sV 5) (sC (.int 0)))) (sRet (sC (.int 0))) sNx) (sAug 3 gIAdd (sV 5)))) ks [some d, some (.int deep), some (.int most), some (.int c), t4, t5] h = .nx [some d, some (.int deep), some (.int most), some (.int (pcGo (fun x m => pc n x (deep - 1) m) most ks c)), t4', t5'] h) := by
        intro ks
        induction ks with
        | nil => intro c t4 t5 _ _; exact .inr ⟨t4, t5, by rw [forL, if_pos True.intro, pcGo]⟩
        | cons x ks ih =>
          intro c t4 t5 hx hc
          have ex := parts_count_ok n x (deep - 1) (most - c) h (hx x (List.mem_cons_self ..)) (by omega) (by omega)
          have s1 : sSet 5 (sA (sN 3 (F_parts_count n)) (sCons (sV 4) (sCons (s2 gSub (sV 1) (sC (.int 1))) (sCons (s2 gSub (sV 2) (sV 3)) sNil)))) [some d, some (.int deep), some (.int most), some (.int c), some x, t5] h = .nx [some d, some (.int deep), some (.int most), some (.int c), some x, some (.int (pc n x (deep - 1) (most - c)))] h :=
            t_set (e_a (e_cons (e_v rfl) (e_cons (e_2 (e_v rfl) e_c rfl) (e_cons (e_2 (e_v rfl) (e_v rfl) rfl) e_nil))) (e_call rfl ex))
          by_cases z : pc n x (deep - 1) (most - c) = 0
          · left
            refine ⟨by rw [pcGo, if_pos z], ?_⟩
            rw [forL, if_pos True.intro, show kN 4 x [some d, some (.int deep), some (.int most), some (.int c), t4, t5] h = .nx [some d, some (.int deep), some (.int most), some (.int c), some x, t5] h from rfl]
            dsimp only
            rw [t_seq s1 (t_seqR (t_ifT (e_T (e_2 (e_v rfl) e_c (by rw [eq_int, z]; exact rfl))) (t_ret e_c)))]
          · have nn := pc_nn n x (deep - 1) (most - c)
            have st : forL (fun _ => True) (kN 4) (sSeq (sSet 5 (sA (sN 3 (F_parts_count n)) (sCons (sV 4) (sCons (s2 gSub (sV 1) (sC (.int 1))) (sCons (s2 gSub (sV 2) (sV 3)) sNil))))) (sSeq (sIf (sT (s2 hEq (sV 5) (sC (.int 0)))) (sRet (sC (.int 0))) sNx) (sAug 3 gIAdd (sV 5)))) (x :: ks) [some d, some (.int deep), some (.int most), some (.int c), t4, t5] h =
              forL (fun _ => True) (kN 4) (sSeq (sSet 5 (sA (sN 3 (F_parts_count n)) (sCons (sV 4) (sCons (s2 gSub (sV 1) (sC (.int 1))) (sCons (s2 gSub (sV 2) (sV 3)) sNil))))) (sSeq (sIf (sT (s2 hEq (sV 5) (sC (.int 0)))) (sRet (sC (.int 0))) sNx) (sAug 3 gIAdd (sV 5)))) ks [some d, some (.int deep), some (.int most), some (.int (c + pc n x (deep - 1) (most - c))), some x, some (.int (pc n x (deep - 1) (most - c)))] h := by
              rw [forL, if_pos True.intro, show kN 4 x [some d, some (.int deep), some (.int most), some (.int c), t4, t5] h = .nx [some d, some (.int deep), some (.int most), some (.int c), some x, t5] h from rfl]
              dsimp only
              rw [t_seq s1 (t_seq (t_ifF (e_T (e_2 (e_v rfl) e_c (by rw [eq_int, beq_eq_false_iff_ne.mpr z]))) t_nx) (t_aug rfl (e_v rfl) rfl))]
              rfl
            rw [st]
            have ec : pcGo (fun x m => pc n x (deep - 1) m) most (x :: ks) c = pcGo (fun x m => pc n x (deep - 1) m) most ks (c + pc n x (deep - 1) (most - c)) := by rw [pcGo, if_neg z]
            rw [ec]
            exact ih _ _ _ (fun y hy => hx y (List.mem_cons_of_mem _ hy)) (by omega)
      have ep : pc (n + 1) d deep most = pcGo (fun x m => pc n x (deep - 1) m) most (kidsD d) 1 := by
        rw [pc, if_neg]
        rintro (z | z | z)
        · exact c1 z
        · exact c2 z
        · rw [hf] at z; cases z
      refine t_seq (t_set e_c) ?_
      rw [ep]
      have it := e_it (e_a (e_cons (e_v (τ := [some d, some (.int deep), some (.int most), some (.int 1), none, none]) (i := 0) rfl) e_nil) (e_call (n := 1) rfl (innerD_ok h hf))) rfl
      rcases go (kidsD d) 1 none none hk (by decide) with ⟨z, e⟩ | ⟨t4, t5, e⟩
      · rw [z]
        exact t_seqR (t_for it e)
      · exact t_seq (t_for it e) (t_ret (e_v rfl))
inductive Bad : D → Prop
  | form {d : D} (h : formB d = false) : Bad d
  | kid {d x : D} (h : x ∈ kidsD d) (b : Bad x) : Bad d
theorem pcGo_bad {f : D → Int → Int} {most : Int} {x : D} (hf : ∀ m, f x m = 0) : ∀ (xs : List D) (c : Int), x ∈ xs → pcGo f most xs c = 0
  | [], _, h => by cases h
  | y :: xs, c, h => by
    rw [pcGo]
    rcases List.mem_cons.mp h with rfl | h
    · rw [if_pos (hf _)]
    · split
      · rfl
      · exact pcGo_bad hf xs _ h
theorem pc_bad {d : D} (b : Bad d) : ∀ (n : Nat) (deep most : Int), pc n d deep most = 0 := by
  induction b with
  | form h =>
    intro n deep most
    cases n with
    | zero => rfl
    | succ n => rw [pc, if_pos (.inr (.inr h))]
  | kid h _ ih =>
    intro n deep most
    cases n with
    | zero => rfl
    | succ n =>
      rw [pc]
      split
      · rfl
      · exact pcGo_bad (fun m => ih n _ m) _ _ h
def okSh : Sh → Prop
  | .one s => unlB s = true
  | .row ps => ps.length ≤ 6
  | .either ps => 1 ≤ ps.length ∧ ps.length ≤ 6
  | .many _ => True
  | .times _ lo hi => 0 ≤ lo ∧ lo ≤ hi ∧ hi ≤ 4
inductive Fine : Nat → Sh → Prop
  | mk {n : Nat} {sh : Sh} (o : okSh sh) (k : ∀ p ∈ kids sh, Fine n p) : Fine (n + 1) sh
theorem kids_toD (sh : Sh) : kidsD (toD sh) = (kids sh).map toD := by
  cases sh with
  | one s => rfl
  | row ps => simp only [toD, toDs_map, kids]; rfl
  | either ps => simp only [toD, toDs_map, kids]; rfl
  | many p => rfl
  | times p lo hi => rfl
theorem form_toD {sh : Sh} (o : okSh sh) : formB (toD sh) = true := by
  cases sh with
  | one s => exact o
  | row ps =>
    have o : ps.length ≤ 6 := o
    simp only [toD, toDs_map]
    show (decide ((0 : Int) ≤ ((ps.map toD).length : Int)) && decide (((ps.map toD).length : Int) ≤ 6)) = true
    simp; omega
  | either ps =>
    have o : 1 ≤ ps.length ∧ ps.length ≤ 6 := o
    simp only [toD, toDs_map]
    show (decide ((1 : Int) ≤ ((ps.map toD).length : Int)) && decide (((ps.map toD).length : Int) ≤ 6)) = true
    simp; omega
  | many p => rfl
  | times p lo hi =>
    have o : 0 ≤ lo ∧ lo ≤ hi ∧ hi ≤ 4 := o
    show timesB (.int lo) (.int hi) = true
    simp only [timesB, nfB, nfD]
    simp; omega
def size (sh : Sh) : Int := ((parts sh).length : Int)
theorem size_pos (sh : Sh) : 1 ≤ size sh := by unfold size; rw [parts_eq, List.length_cons]; omega
theorem pcGo_fine {f : D → Int → Int} {most : Int} {L : Sh → Prop} [DecidablePred L] : ∀ (ks : List Sh) (c : Int), c ≤ most → (∀ x ∈ ks, ∀ m, f (toD x) m = if L x ∧ size x ≤ m then size x else 0) →
    pcGo f most (ks.map toD) c = if (∀ x ∈ ks, L x) ∧ c + ((partsL ks).length : Int) ≤ most then c + ((partsL ks).length : Int) else 0
  | [], c, hc, _ => by simp [pcGo, partsL, hc]
  | x :: ks, c, hc, hf => by
    rw [List.map_cons, pcGo, hf x (List.mem_cons_self ..)]
    have sp := size_pos x
    have ep : ((partsL (x :: ks)).length : Int) = size x + ((partsL ks).length : Int) := by rw [partsL, List.length_append]; unfold size; omega
    by_cases z : L x ∧ size x ≤ most - c
    · rw [if_pos z, if_neg (by omega), pcGo_fine ks _ (by omega) fun y hy => hf y (List.mem_cons_of_mem _ hy), ep, ← Int.add_assoc]
      have : (∀ y ∈ x :: ks, L y) ↔ ∀ y ∈ ks, L y := by simp [z.1]
      simp only [this]
    · rw [if_neg z, if_pos rfl, if_neg]
      rintro ⟨z1, z2⟩
      exact z ⟨z1 x (List.mem_cons_self ..), by omega⟩
mutual
def dep : Sh → Nat
  | .one _ => 1
  | .row ps => 1 + depL ps
  | .either ps => 1 + depL ps
  | .many p => 1 + max (dep p) 0
  | .times p _ _ => 1 + max (dep p) 0
def depL : List Sh → Nat
  | [] => 0
  | p :: ps => max (dep p) (depL ps)
end
theorem dep_eq (sh : Sh) : dep sh = 1 + depL (kids sh) := by cases sh <;> simp [dep, depL, kids]
theorem depL_le {n : Nat} : ∀ {ps : List Sh}, depL ps ≤ n ↔ ∀ p ∈ ps, dep p ≤ n
  | [] => by simp [depL]
  | p :: ps => by rw [depL, Nat.max_le, depL_le]; simp
theorem pc_fine : ∀ (m : Nat) (sh : Sh), Fine m sh → ∀ (n : Nat) (deep most : Int), 0 ≤ deep → deep < n → pc n (toD sh) deep most = if (dep sh : Int) ≤ deep ∧ size sh ≤ most then size sh else 0
  | 0, _, f, _, _, _, _, _ => by cases f
  | m + 1, sh, f, 0, deep, most, h0, h1 => by exact absurd h1 (by omega)
  | m + 1, sh, f, n + 1, deep, most, h0, h1 => by
    cases f with
    | mk o k =>
      have sz : size sh = 1 + ((partsL (kids sh)).length : Int) := by unfold size; rw [parts_eq, List.length_cons]; omega
      have de := dep_eq sh
      rw [pc]
      by_cases c : deep < 1 ∨ most < 1
      · rw [if_pos (by rcases c with c | c; exact .inl c; exact .inr (.inl c)), if_neg]
        rintro ⟨z1, z2⟩
        omega
      · rw [if_neg (by rintro (z | z | z); exact c (.inl z); exact c (.inr z); rw [form_toD o] at z; cases z), kids_toD]
        rw [pcGo_fine (L := fun x => (dep x : Int) ≤ deep - 1) (kids sh) 1 (by omega) fun x hx m' => pc_fine m x (k x hx) n (deep - 1) m' (by omega) (by omega), ← sz]
        have : (∀ x ∈ kids sh, (dep x : Int) ≤ deep - 1) ↔ (dep sh : Int) ≤ deep := by
          rw [de]
          have := depL_le (n := (deep - 1).toNat) (ps := kids sh)
          constructor
          · intro z
            have := this.mpr fun p hp => by have := z p hp; omega
            omega
          · intro z x hx
            have := this.mp (by omega) x hx
            omega
        simp only [this]
noncomputable def F_is_shape : SF := gcF (bodyR (b_is_shape (F_parts_count 6)) 1)
theorem is_shape_ok {h : Hd} {d : D} (a : alD h d) : F_is_shape [d] h = .ok (.bl (decide (0 < pc 6 d 5 24))) h := by
  apply gc_same
  apply body_rt
  unfold b_is_shape
  exact t_ret (e_2 (e_a (e_cons (e_v rfl) (e_cons e_c (e_cons e_c e_nil))) (e_call rfl (parts_count_ok 6 d 5 24 h a (by decide) (by decide)))) e_c rfl)
theorem not_shape {h : Hd} {d : D} (a : alD h d) (b : Bad d) : F_is_shape [d] h = .ok (.bl false) h := by
  rw [is_shape_ok a, pc_bad b]; rfl
theorem yes_shape {h : Hd} {m : Nat} {sh : Sh} (a : alD h (toD sh)) (f : Fine m sh) (d : dep sh ≤ 5) (s : size sh ≤ 24) : F_is_shape [toD sh] h = .ok (.bl true) h := by
  rw [is_shape_ok a, pc_fine m sh f 6 5 24 (by decide) (by decide), if_pos ⟨by omega, s⟩, decide_eq_true (by have := size_pos sh; omega)]
theorem no_shape {h : Hd} {m : Nat} {sh : Sh} (a : alD h (toD sh)) (f : Fine m sh) (d : 5 < dep sh ∨ 24 < size sh) : F_is_shape [toD sh] h = .ok (.bl false) h := by
  rw [is_shape_ok a, pc_fine m sh f 6 5 24 (by decide) (by decide), if_neg (by omega)]; rfl
end Q4
set_option Elab.async false
set_option linter.all false
set_option maxRecDepth 100000
set_option maxHeartbeats 4000000
namespace Q4
open PySem PySem.Spec L2 MI PEN SHF
open SHP (Sh)
local macro_rules | `(tactic| walk_at "eq") => `(tactic| first | exact rfl | (simp only [List.set_cons_zero, List.set_cons_succ, List.set_set, *] <;> exact rfl))
local macro_rules | `(tactic| walk_at "g") => `(tactic| first | exact rfl | (simp only [gIx, seqD, atI_0, atI_1, atI_2, atI_3, gGt, gGe, gLt, gLe, gAdd, MI.gSub, gMod, gDiv, gPow, gAbs, gInt, gLen, gMax2, gMin2, MI.gTup, MI.gLst, tru, hEq, hNe, pur, eqD, gIs, gIsNot, isNon, gNeg, gIAdd, gMul, List.length_map, *, ite_true, ite_false, if_true, if_false, reduceIte, decide_true, decide_false, and_self, and_true, true_and, Bool.true_eq_false, Nat.reduceLeDiff, List.length_cons, List.length_nil, Nat.reduceAdd, Int.reduceLE, Int.reduceLT, ne_eq, not_false_eq_true, not_true_eq_false] <;> exact rfl) | assumption)
local macro_rules | `(tactic| walk_at "p") => `(tactic| first | exact rfl | (simp only [put, *, List.length_cons, List.length_nil, Nat.reduceAdd, ix31, ix32, ix30, ix10] <;> exact rfl))
local macro_rules | `(tactic| walk_at "ev") => `(tactic| first
  | (with_reducible exact e_c)
  | ((with_reducible apply e_v); exact rfl)
  | (with_reducible exact e_nil)
  | (with_reducible exact e_oN)
  | ((with_reducible apply e_2); walk_at "ev"; walk_at "ev"; walk_at "g")
  | ((with_reducible apply e_1); walk_at "ev"; walk_at "g")
  | ((with_reducible apply e_a); walk_at "ev"; first | ((with_reducible apply e_call); exact rfl; first | assumption | walk_at "g") | walk_at "g")
  | ((with_reducible apply e_cons); walk_at "ev"; walk_at "ev")
  | ((with_reducible apply e_T); walk_at "ev")
  | ((with_reducible apply e_not); walk_at "ev")
  | ((with_reducible apply e_tru); walk_at "ev"; walk_at "g")
  | ((with_reducible apply e_oS); walk_at "ev")
  | ((with_reducible apply e_sl); walk_at "ev"; walk_at "ev"; walk_at "ev"; walk_at "g")
  | ((with_reducible apply e_notV); walk_at "ev")
  | ((with_reducible apply e_andF); walk_at "ev")
  | ((with_reducible apply e_andT); walk_at "ev"; walk_at "ev")
  | ((with_reducible apply e_orT); walk_at "ev")
  | ((with_reducible apply e_orF); walk_at "ev"; walk_at "ev")
  | ((with_reducible apply e_andVF); walk_at "ev")
  | ((with_reducible apply e_andVT); walk_at "ev"; walk_at "ev")
  | ((with_reducible apply e_orVT); walk_at "ev")
  | ((with_reducible apply e_orVF); walk_at "ev"; walk_at "ev")
  | ((with_reducible apply e_ifT); walk_at "ev"; walk_at "ev")
  | ((with_reducible apply e_ifF); walk_at "ev"; walk_at "ev"))
local macro_rules | `(tactic| walk_at "st") => `(tactic| first
  | (with_reducible exact t_nx)
  | ((with_reducible apply t_set2); walk_at "ev"; walk_at "eq"; walk_at "eq")
  | ((with_reducible apply t_ret2); walk_at "ev"; walk_at "eq"; walk_at "eq")
  | ((with_reducible apply t_drop); walk_at "ev")
  | ((with_reducible apply t_put); walk_at "ev"; walk_at "ev"; walk_at "ev"; walk_at "p")
  | ((with_reducible apply t_ifF); walk_at "ev"; walk_at "st")
  | ((with_reducible apply t_ifT); walk_at "ev"; walk_at "st")
  | ((with_reducible apply t_seq); walk_at "st"; walk_at "st")
  | ((with_reducible apply t_seqR); walk_at "st"))
noncomputable def b_law_put (F_law_inner : SF) (F_law_parts : SF) (F_law_put : SF) : SS :=
 (sSeq (sIf (sT (s2 hEq (sV 1) (sC (.int 0))))
  (sRet (sV 2))
  sNx)
 (sSeq (sSet 1 (s2 gSub (sV 1) (sC (.int 1))))
 (sSeq (sSet 3 (sA gList (sCons (sA (sN 1 F_law_inner) (sCons (sV 0) sNil)) sNil)))
 (sSeq (sFor (sRg gRng1 (sCons (sA gLen (sCons (sV 3) sNil)) sNil)) (kN 4) (sSeq (sSet 5 (sA gLen (sCons (sA (sN 1 F_law_parts) (sCons (s2 gIx (sV 3) (sV 4)) sNil)) sNil)))
 (sSeq (sIf (sT (sCh gLe gLt (sC (.int 0)) (sV 1) (sV 5)))
  (sPut (sA (sN 3 F_law_put) (sCons (s2 gIx (sV 3) (sV 4)) (sCons (sV 1) (sCons (sV 2) sNil)))) (sV 3) (sV 4))
  sNx)
 (sSet 1 (s2 gSub (sV 1) (sV 5))))))
 (sSeq (sIf (sT (s2 hEq (s2 gIx (sV 0) (sC (.int 0))) (sC (.str "times"))))
  (sRet (sA gTup (sCons (sC (.str "times")) (sCons (s2 gIx (sV 3) (sC (.int 0))) (sCons (s2 gIx (sV 0) (sC (.int 2))) (sCons (s2 gIx (sV 0) (sC (.int 3))) sNil))))))
  sNx)
 (sSeq (sIf (sT (s2 hEq (s2 gIx (sV 0) (sC (.int 0))) (sC (.str "many"))))
  (sRet (sA gTup (sCons (sC (.str "many")) (sCons (s2 gIx (sV 3) (sC (.int 0))) sNil))))
  sNx)
 (sRet (sA gTup (sCons (s2 gIx (sV 0) (sC (.int 0))) (sCons (sA gTuple (sCons (sV 3) sNil)) sNil))))))))))
def TextOk (T : Str) : Prop := T.cps.toList.Nodup ∧ (∀ c ∈ T.cps.toList, signB c = true) ∧ T.length ≤ 6
theorem sub_text {x T : Str} {rest : List Nat} (pm : (x.cps.toList ++ rest).Perm T.cps.toList) (nd : T.cps.toList.Nodup) (sg : ∀ c ∈ T.cps.toList, signB c = true) : x.cps.toList.Nodup ∧ (∀ c ∈ x.cps.toList, signB c = true) ∧ x.length ≤ T.length := by
  refine ⟨?_, fun c hc => sg c (pm.mem_iff.mp (List.mem_append_left _ hc)), ?_⟩
  · have := pm.nodup_iff.mpr nd
    exact (List.nodup_append.mp this).1
  · have := pm.length_eq
    rw [List.length_append, len_l, len_l] at this
    omega
theorem unl_of {x : Str} (nd : x.cps.toList.Nodup) (sg : ∀ c ∈ x.cps.toList, signB c = true) (l1 : 1 ≤ x.length) (l6 : x.length ≤ 6) : unlB x = true := by
  have hd : (L2.dedup x.cps.toList).length = x.length := by rw [(dedup_len _).mpr nd, len_l]
  simp only [unlB, hd, Bool.and_eq_true, decide_eq_true_eq, beq_self_eq_true, true_and, List.all_eq_true, List.mem_map, id]
  exact ⟨⟨by omega, by omega⟩, fun b ⟨c, hc, e⟩ => by rw [← e]; exact sg c hc⟩
theorem drawn_fine {T : Str} (t : TextOk T) : ∀ {n : Nat} {sh : Sh}, Drawn T n sh → Fine n sh
  | 0, _, h => h.elim
  | n + 1, .one x, h => by
    obtain ⟨l1, rest, pm⟩ := h
    obtain ⟨a, b, c⟩ := sub_text pm t.1 t.2.1
    exact .mk (unl_of a b l1 (Nat.le_trans c t.2.2)) (by simp [kids])
  | n + 1, .row ps, h => .mk h.1 fun p hp => drawn_fine t (h.2 p hp)
  | n + 1, .either ps, h => .mk h.1 fun p hp => drawn_fine t (h.2 p hp)
  | n + 1, .many p, h => .mk True.intro fun q hq => by rw [List.mem_singleton.mp hq]; exact drawn_fine t (n := n) h
  | n + 1, .times p lo hi, h => .mk h.1 fun q hq => by rw [List.mem_singleton.mp hq]; exact drawn_fine t h.2
theorem unl_len {x : Str} (h : unlB x = true) : x.length ≤ 1000 := by
  simp only [unlB, Bool.and_eq_true, decide_eq_true_eq] at h
  omega
theorem al_head (w : Str) (r : List D) (h : Hd) (lw : w.length ≤ 1000) : alD h (.tup (.str w :: r)) ↔ alDs h r := by simp [alD, alDs, lw]
theorem fine_al (h : Hd) : ∀ {n : Nat} {sh : Sh}, Fine n sh → alD h (toD sh)
  | 0, _, f => by cases f
  | n + 1, sh, f => by
    cases f with
    | mk o k =>
      have k' : ∀ p ∈ kids sh, alD h (toD p) := fun p hp => fine_al h (k p hp)
      cases sh with
      | one x => simp only [toD]; rw [al_head _ _ _ (by decide)]; simp only [alDs, alD, and_true]; exact unl_len o
      | row ps => simp only [toD, toDs_map]; rw [al_head _ _ _ (by decide)]; simp only [alDs, alD, and_true]; rw [alDs_mem]; intro d hd; obtain ⟨p, hp, rfl⟩ := List.mem_map.mp hd; exact k' p hp
      | either ps => simp only [toD, toDs_map]; rw [al_head _ _ _ (by decide)]; simp only [alDs, alD, and_true]; rw [alDs_mem]; intro d hd; obtain ⟨p, hp, rfl⟩ := List.mem_map.mp hd; exact k' p hp
      | many p => simp only [toD]; rw [al_head _ _ _ (by decide)]; simp only [alDs, and_true]; exact k' p (by simp [kids])
      | times p lo hi => simp only [toD]; rw [al_head _ _ _ (by decide)]; simp only [alDs, alD, and_true]; exact k' p (by simp [kids])
mutual
theorem al_clo {h : Hd} {n : Nat} (l : h.length ≤ n) : ∀ {d : D}, alD h d → clo n d
  | .tup xs, a => by simp only [clo]; simp only [alD] at a; exact als_clo l a
  | .str _, _ => by simp [clo]
  | .ref i, a => by simp only [alD] at a; simp only [clo]; omega
  | .rol _, a => by simp [alD] at a
  | .ty _, a => by simp [alD] at a
  | .non, _ => by simp [clo]
  | .bl _, _ => by simp [clo]
  | .int _, _ => by simp [clo]
theorem als_clo {h : Hd} {n : Nat} (l : h.length ≤ n) : ∀ {ds : List D}, alDs h ds → clos n ds
  | [], _ => by simp [clos]
  | x :: xs, a => by simp only [alDs] at a; simp only [clos]; exact ⟨al_clo l a.1, als_clo l a.2⟩
end
mutual
theorem al_up {h h' : Hd} (l : h.length ≤ h'.length) : ∀ {d : D}, alD h d → alD h' d
  | .tup xs, a => by simp only [alD] at a ⊢; exact als_up l a
  | .str _, a => by simpa [alD] using a
  | .ref i, a => by simp only [alD] at a ⊢; omega
  | .rol _, a => by simp [alD] at a
  | .ty _, a => by simp [alD] at a
  | .non, _ => by simp [alD]
  | .bl _, _ => by simp [alD]
  | .int _, _ => by simp [alD]
theorem als_up {h h' : Hd} (l : h.length ≤ h'.length) : ∀ {ds : List D}, alDs h ds → alDs h' ds
  | [], _ => by simp [alDs]
  | x :: xs, a => by simp only [alDs] at a ⊢; exact ⟨al_up l a.1, als_up l a.2⟩
end
theorem bad_row {w : Str} {ys : List D} {y : D} (hw : w = "row" ∨ w = "either") (hy : y ∈ ys) (b : Bad y) : Bad (.tup [.str w, .tup ys]) := by
  refine .kid (x := y) ?_ b
  rcases hw with rfl | rfl <;> exact hy
theorem bad_many {y : D} (b : Bad y) : Bad (.tup [.str "many", y]) := .kid (x := y) (List.mem_singleton.mpr rfl) b
theorem bad_times {y lo hi : D} (b : Bad y) : Bad (.tup [.str "times", y, lo, hi]) := .kid (x := y) (List.mem_singleton.mpr rfl) b
theorem ixN_nat {n k : Nat} (h : k < n) : ixN n (k : Int) = some k := by
  unfold ixN
  rw [if_pos (by omega), if_pos (by omega), Int.toNat_natCast]
noncomputable def F_law_put : Nat → SF
  | 0 => fun _ _ => .no
  | n + 1 => gcF (bodyR (b_law_put F_inner (F_law_parts 6) (F_law_put n)) 6)
theorem put_ok : ∀ (n : Nat) (sh : Sh) (i : Int) (d : D) (h0 h : Hd), n ≤ 6 → good n sh → 0 ≤ i → i < size sh → h0.length ≤ h.length → alD h0 (toD sh) → alD h0 d → Bad d → ∃ d', F_law_put n [toD sh, .int i, d] h = .ok d' h ∧ Bad d' ∧ alD h0 d'
  | 0, _, _, _, _, _, _, g, _, _, _, _, _, _ => g.elim
  | n + 1, sh, i, d, h0, h, n6, g, i0, i1, l0, as, ad, bd => by
    by_cases iz : i = 0
    · refine ⟨d, ?_, bd, ad⟩
      apply gc_same
      apply body_rt
      unfold b_law_put
      subst iz
      exact t_seqR (t_ifT (e_T (e_2 (e_v rfl) e_c (eq_int _ _ _))) (t_ret (e_v rfl)))
    obtain ⟨k6, gk⟩ := good_kids g
    have ei : ∀ h', F_inner [toD sh] h' = .ok (.tup ((kids sh).map toD)) h' := fun h' => inner_ok sh h' g
    have ak : ∀ p ∈ kids sh, alD h0 (toD p) := by
      intro p hp
      cases sh with
      | one s => cases hp
      | row ps => simp only [toD, toDs_map, alD, alDs] at as; exact alDs_mem.mp as.2.1 _ (List.mem_map_of_mem hp)
      | either ps => simp only [toD, toDs_map, alD, alDs] at as; exact alDs_mem.mp as.2.1 _ (List.mem_map_of_mem hp)
      | many q => simp only [toD, alD, alDs] at as; rw [List.mem_singleton.mp hp]; exact as.2.1
      | times q lo hi => simp only [toD, alD, alDs] at as; rw [List.mem_singleton.mp hp]; exact as.2.1
    have sz : size sh = 1 + ((partsL (kids sh)).length : Int) := by unfold size; rw [parts_eq, List.length_cons]; omega
    have lo := forL_all (ck := fun _ => True) (g := kN 4) (b := (sSeq (sSet 5 (sA gLen (sCons (sA (sN 1 (F_law_parts 6)) (sCons (s2 gIx (sV 3) (sV 4)) sNil)) sNil)))
       (sSeq (sIf (sT (sCh gLe gLt (sC (.int 0)) (sV 1) (sV 5))) (sPut (sA (sN 3 (F_law_put n)) (sCons (s2 gIx (sV 3) (sV 4)) (sCons (sV 1) (sCons (sV 2) sNil)))) (sV 3) (sV 4)) sNx)
       (sSet 1 (s2 gSub (sV 1) (sV 5)))))) (rng 0 ((kids sh).length : Int).toNat)
      (fun pre τ h' => ∃ (at' : Int) (ys : List D) (gg : Hd) (t4 t5 : Option D), τ = [some (toD sh), some (.int at'), some d, some (.ref h.length), t4, t5] ∧ h' = h ++ (.lst ys :: gg) ∧ ys.length = (kids sh).length ∧
        (∀ j, pre.length ≤ j → ys[j]? = ((kids sh).map toD)[j]?) ∧ (∀ y ∈ ys, alD h0 y) ∧ ((0 ≤ at' ∧ at' < ((partsL ((kids sh).drop pre.length)).length : Int)) ∨ (at' < 0 ∧ ∃ y ∈ ys, Bad y))) (fun _ _ _ _ => True.intro) ?_
      (rng 0 ((kids sh).length : Int).toNat) [] [some (toD sh), some (.int (i - 1)), some d, some (.ref h.length), none, none] (h ++ [.lst ((kids sh).map toD)]) rfl
      ⟨i - 1, (kids sh).map toD, [], none, none, rfl, rfl, by simp, fun _ _ => rfl, fun y hy => by obtain ⟨p, hp, rfl⟩ := List.mem_map.mp hy; exact ak p hp, .inl ⟨by omega, by simp; omega⟩⟩
    · obtain ⟨τ', h', e, at', ys, gg, t4, t5, rfl, rfl, ly, _, ay, last⟩ := lo
      have lr : (rng 0 ((kids sh).length : Int).toNat).length = (kids sh).length := by simp [rng]
      obtain ⟨y, hy, by'⟩ : ∃ y ∈ ys, Bad y := by
        rcases last with ⟨z0, z1⟩ | ⟨_, z⟩
        · rw [lr, List.drop_length] at z1
          simp [partsL] at z1
          omega
        · exact z
      have get : (h ++ (O.lst ys :: gg))[h.length]? = some (.lst ys) := by simp
      have run : ∀ d', clo h.length d' → (sSeq (sIf (sT (s2 hEq (s2 gIx (sV 0) (sC (.int 0))) (sC (.str "times"))))
          (sRet (sA gTup (sCons (sC (.str "times")) (sCons (s2 gIx (sV 3) (sC (.int 0))) (sCons (s2 gIx (sV 0) (sC (.int 2))) (sCons (s2 gIx (sV 0) (sC (.int 3))) sNil)))))) sNx)
          (sSeq (sIf (sT (s2 hEq (s2 gIx (sV 0) (sC (.int 0))) (sC (.str "many"))))
          (sRet (sA gTup (sCons (sC (.str "many")) (sCons (s2 gIx (sV 3) (sC (.int 0))) sNil)))) sNx)
          (sRet (sA gTup (sCons (s2 gIx (sV 0) (sC (.int 0))) (sCons (sA gTuple (sCons (sV 3) sNil)) sNil)))))) [some (toD sh), some (.int at'), some d, some (.ref h.length), t4, t5] (h ++ (.lst ys :: gg)) = .rt d' (h ++ (.lst ys :: gg)) →
          F_law_put (n + 1) [toD sh, .int i, d] h = .ok d' h := by
        intro d' cd e'
        refine gc_pure (g := .lst ys :: gg) ?_ (.inl cd)
        apply body_rt
        unfold b_law_put
        refine t_seq (t_ifF (e_T (e_2 (e_v rfl) e_c (by rw [eq_int, beq_eq_false_iff_ne.mpr iz]))) t_nx) ?_
        refine t_seq (t_set (e_2 (e_v rfl) e_c rfl)) ?_
        refine t_seq (t_set (e_a (e_cons (e_a (e_cons (e_v rfl) e_nil) (e_call rfl (ei _))) e_nil) (r := .ok (.ref h.length) (h ++ [.lst ((kids sh).map toD)])) rfl)) ?_
        have gl : gLen [.ref h.length] (h ++ [O.lst ((kids sh).map toD)]) = .ok (.int (kids sh).length) (h ++ [O.lst ((kids sh).map toD)]) := by simp only [gLen, seqD, get_last, List.length_map]
        have it : sRg gRng1 (sCons (sA gLen (sCons (sV 3) sNil)) sNil) [some (toD sh), some (.int (i - 1)), some d, some (.ref h.length), none, none] (h ++ [O.lst ((kids sh).map toD)]) = .ok ⟨rng 0 ((kids sh).length : Int).toNat, fun _ => True⟩ (h ++ [O.lst ((kids sh).map toD)]) :=
          e_rg1 (e_cons (e_a (e_cons (e_v rfl) e_nil) gl) e_nil) (by constructor <;> omega)
        refine t_seq (t_for it e) ?_
        exact e'
      cases sh with
      | one s => simp only [kids, List.length_nil] at ly; rw [List.eq_nil_of_length_eq_zero ly] at hy; cases hy
      | row ps =>
        have ad' : alD h0 (.tup [.str "row", .tup ys]) := by rw [al_head _ _ _ (by decide)]; simp only [alDs, alD, and_true]; exact alDs_mem.mpr ay
        refine ⟨_, run (.tup [.str "row", .tup ys]) (al_clo l0 ad') ?_, bad_row (.inl rfl) hy by', ad'⟩
        simp only [toD]
        refine t_seq (t_ifF (e_T (e_2 (e_2 (e_v rfl) e_c rfl) e_c (eq_str _ _ _))) t_nx) ?_
        refine t_seq (t_ifF (e_T (e_2 (e_2 (e_v rfl) e_c rfl) e_c (eq_str _ _ _))) t_nx) ?_
        exact t_ret (e_a (e_cons (e_2 (e_v rfl) e_c rfl) (e_cons (e_a (e_cons (e_v rfl) e_nil) (r := .ok (.tup ys) _) (by simp only [gTuple, seqD, get])) e_nil)) rfl)
      | either ps =>
        have ad' : alD h0 (.tup [.str "either", .tup ys]) := by rw [al_head _ _ _ (by decide)]; simp only [alDs, alD, and_true]; exact alDs_mem.mpr ay
        refine ⟨_, run (.tup [.str "either", .tup ys]) (al_clo l0 ad') ?_, bad_row (.inr rfl) hy by', ad'⟩
        simp only [toD]
        refine t_seq (t_ifF (e_T (e_2 (e_2 (e_v rfl) e_c rfl) e_c (eq_str _ _ _))) t_nx) ?_
        refine t_seq (t_ifF (e_T (e_2 (e_2 (e_v rfl) e_c rfl) e_c (eq_str _ _ _))) t_nx) ?_
        exact t_ret (e_a (e_cons (e_2 (e_v rfl) e_c rfl) (e_cons (e_a (e_cons (e_v rfl) e_nil) (r := .ok (.tup ys) _) (by simp only [gTuple, seqD, get])) e_nil)) rfl)
      | many p =>
        obtain ⟨y', rfl⟩ : ∃ y', ys = [y'] := List.length_eq_one_iff.mp ly
        rw [List.mem_singleton] at hy
        subst hy
        have ad' : alD h0 (.tup [.str "many", y]) := by rw [al_head _ _ _ (by decide)]; simp only [alDs, and_true]; exact ay y (by simp)
        refine ⟨_, run (.tup [.str "many", y]) (al_clo l0 ad') ?_, bad_many by', ad'⟩
        simp only [toD]
        refine t_seq (t_ifF (e_T (e_2 (e_2 (e_v rfl) e_c rfl) e_c (eq_str _ _ _))) t_nx) ?_
        exact t_seqR (t_ifT (e_T (e_2 (e_2 (e_v rfl) e_c rfl) e_c (eq_str _ _ _))) (t_ret (e_a (e_cons e_c (e_cons (e_2 (e_v rfl) e_c (r := .ok y _) (by simp only [gIx, seqD, get, atI_0])) e_nil)) rfl)))
      | times p lo hi =>
        obtain ⟨y', rfl⟩ : ∃ y', ys = [y'] := List.length_eq_one_iff.mp ly
        rw [List.mem_singleton] at hy
        subst hy
        have ad' : alD h0 (.tup [.str "times", y, .int lo, .int hi]) := by rw [al_head _ _ _ (by decide)]; simp only [alDs, alD, and_true]; exact ay y (by simp)
        refine ⟨_, run (.tup [.str "times", y, .int lo, .int hi]) (al_clo l0 ad') ?_, bad_times by', ad'⟩
        simp only [toD]
        exact t_seqR (t_ifT (e_T (e_2 (e_2 (e_v rfl) e_c rfl) e_c (eq_str _ _ _))) (t_ret (e_a (e_cons e_c (e_cons (e_2 (e_v rfl) e_c (r := .ok y _) (by simp only [gIx, seqD, get, atI_0])) (e_cons (e_2 (e_v rfl) e_c rfl) (e_cons (e_2 (e_v rfl) e_c rfl) e_nil)))) rfl)))
    · rintro pre x post τ h' all ⟨at', ys, gg, t4, t5, rfl, rfl, ly, eqs, ay, alt⟩
      obtain ⟨k, hk, rfl, epre⟩ : ∃ k, k < (kids sh).length ∧ x = D.int (k : Nat) ∧ pre.length = k := by
        have l1 := congrArg List.length all
        have l2 := congrArg (fun l => l[pre.length]?) all
        simp only [rng, List.length_map, List.length_range, List.length_append, List.length_cons] at l1
        have hp : pre.length < ((kids sh).length : Int).toNat := by omega
        simp only [rng, List.getElem?_map, List.getElem?_range hp, Option.map_some, List.getElem?_append_right (Nat.le_refl _), Nat.sub_self, List.getElem?_cons_zero, Option.some.injEq] at l2
        exact ⟨pre.length, by omega, by rw [← l2]; simp, rfl⟩
      rw [epre] at eqs alt
      have hg : (kids sh)[k]? = some (kids sh)[k] := List.getElem?_eq_getElem hk
      have hd : (kids sh).drop k = (kids sh)[k] :: (kids sh).drop (k + 1) := List.drop_eq_getElem_cons hk
      generalize (kids sh)[k] = p at hg hd
      have pm : p ∈ kids sh := List.mem_of_getElem? hg
      have yk : ys[k]? = some (toD p) := by rw [eqs k (Nat.le_refl _), List.getElem?_map, hg]; rfl
      have get : (h ++ (O.lst ys :: gg))[h.length]? = some (.lst ys) := by simp
      obtain ⟨a, g2, e5, la, ea⟩ := law_parts_ok 6 p (h ++ (O.lst ys :: gg)) (by decide) (good_le (gk p pm) (by omega))
      have eh : h ++ (O.lst ys :: gg) ++ g2 = h ++ (O.lst ys :: (gg ++ g2)) := by simp
      rw [eh] at e5 ea
      have get2 : (h ++ (O.lst ys :: (gg ++ g2)))[h.length]? = some (.lst ys) := by simp
      have ix : ∀ {h' : Hd}, h'[h.length]? = some (.lst ys) → gIx (.ref h.length) (.int (k : Nat)) h' = .ok (toD p) h' := fun e => by simp only [gIx, seqD, e, atI_nat yk]
      have dr : ((partsL ((kids sh).drop k)).length : Int) = size p + ((partsL ((kids sh).drop (k + 1))).length : Int) := by
        rw [hd, partsL, List.length_append]; unfold size; omega
      have s1 : sSet 5 (sA gLen (sCons (sA (sN 1 (F_law_parts 6)) (sCons (s2 gIx (sV 3) (sV 4)) sNil)) sNil)) [some (toD sh), some (.int at'), some d, some (.ref h.length), some (.int (k : Nat)), t5] (h ++ (.lst ys :: gg)) = .nx [some (toD sh), some (.int at'), some d, some (.ref h.length), some (.int (k : Nat)), some (.int (size p))] (h ++ (.lst ys :: (gg ++ g2))) :=
        t_set (e_a (e_cons (e_a (e_cons (e_2 (e_v rfl) (e_v rfl) (ix get)) e_nil) (e_call rfl e5)) e_nil) (r := .ok (.int (size p)) (h ++ (.lst ys :: (gg ++ g2)))) (by simp only [gLen, seqD, ea, List.length_map, size]))
      refine ⟨_, _, rfl, ?_⟩
      by_cases hit : 0 ≤ at' ∧ at' < size p
      · obtain ⟨d'', e6, b6, a6⟩ := put_ok n p at' d h0 (h ++ (.lst ys :: (gg ++ g2))) (by omega) (gk p pm) hit.1 hit.2 (by simp; omega) (ak p pm) ad bd
        refine ⟨[some (toD sh), some (.int (at' - size p)), some d, some (.ref h.length), some (.int (k : Nat)), some (.int (size p))], h ++ (.lst (ys.set k d'') :: (gg ++ g2)), ?_, at' - size p, ys.set k d'', gg ++ g2, _, _, rfl, rfl, by simp [ly], ?_, ?_, .inr ⟨by omega, d'', List.mem_iff_getElem?.mpr ⟨k, List.getElem?_set_self (by omega)⟩, b6⟩⟩
        · refine t_seq s1 (t_seq (t_ifT (e_T (e_chT e_c (e_v rfl) (h3 := h ++ (.lst ys :: (gg ++ g2))) (by simp only [gLe, decide_eq_true hit.1]) (e_v rfl) (lt_yes hit.2))) (t_put (e_a (e_cons (e_2 (e_v rfl) (e_v rfl) (ix get2)) (e_cons (e_v rfl) (e_cons (e_v rfl) e_nil))) (e_call rfl e6)) (e_v rfl) (e_v rfl) (h4 := h ++ (.lst (ys.set k d'') :: (gg ++ g2))) ?_)) (t_set (e_2 (e_v rfl) (e_v rfl) rfl)))
          simp only [put, get2, ixN_nat (show k < ys.length by omega)]
          rw [List.set_append_right _ _ (Nat.le_refl _), Nat.sub_self, List.set_cons_zero]
        · intro j hj
          rw [List.length_append, List.length_singleton, epre] at hj
          rw [List.getElem?_set_ne (by omega)]
          exact eqs j (by omega)
        · intro y hy
          rcases List.mem_or_eq_of_mem_set hy with hy | rfl
          · exact ay y hy
          · exact a6
      · refine ⟨[some (toD sh), some (.int (at' - size p)), some d, some (.ref h.length), some (.int (k : Nat)), some (.int (size p))], h ++ (.lst ys :: (gg ++ g2)), ?_, at' - size p, ys, gg ++ g2, _, _, rfl, rfl, ly, fun j hj => eqs j (by rw [List.length_append, List.length_singleton, epre] at hj; omega), ay, ?_⟩
        · refine t_seq s1 (t_seq (t_ifF (e_T (h1 := h ++ (.lst ys :: (gg ++ g2))) ?_) t_nx) (t_set (e_2 (e_v rfl) (e_v rfl) rfl)))
          by_cases z : 0 ≤ at'
          · exact e_chT e_c (e_v rfl) (h3 := h ++ (.lst ys :: (gg ++ g2))) (by simp only [gLe, decide_eq_true z]) (e_v rfl) (lt_no (by omega))
          · exact e_chF e_c (e_v rfl) (by simp only [gLe, decide_eq_false z])
        · rw [List.length_append, List.length_singleton, epre]
          have sp := size_pos p
          rcases alt with ⟨z0, z1⟩ | ⟨z0, z⟩
          · exact .inl ⟨by omega, by omega⟩
          · exact .inr ⟨by omega, z⟩
end Q4
set_option Elab.async false
set_option linter.all false
set_option maxRecDepth 100000
set_option maxHeartbeats 4000000
namespace Q4
open PySem PySem.Spec L2 MI PEN SHF
open SHP (Sh)
noncomputable def b_law_odd_ones (F_law_signs : SF) (F_law_some : SF) (F_law_take : SF) : SS :=
 (sSeq (sSet 1 (sA (sN 3 F_law_some) (sCons (sV 0) (sCons (sA (sN 0 F_law_signs) sNil) (sCons (sC (.int 5)) sNil)))))
 (sSeq (sSet 2 (sA (sN 2 F_law_take) (sCons (sV 0) (sCons (s2 gAdd (sA gLen (sCons (sV 1) sNil)) (sC (.int 1))) sNil))))
 (sSeq (sSet 3 (s2 gAdd (s2 gAdd (sSl2 (sV 1) oN (oS (sV 2))) (s2 gIx (sV 1) (sA (sN 2 F_law_take) (sCons (sV 0) (sCons (sA gLen (sCons (sV 1) sNil)) sNil))))) (sSl2 (sV 1) (oS (sV 2)) oN)))
 (sSeq (sSet 4 (sA (sN 2 F_law_take) (sCons (sV 0) (sCons (sC (.int 88)) sNil))))
 (sSeq (sSet 5 (sA gLst (sCons (sA gTup (sCons (sC (.str "one")) (sCons (sV 3) sNil))) (sCons (sA gTup (sCons (sC (.str "one")) (sCons (s2 gAdd (s2 gAdd (sSl2 (sV 1) oN (oS (sV 2))) (sC (.str "\t"))) (sSl2 (sV 1) (oS (sV 2)) oN)) sNil))) (sCons (sA gTup (sCons (sC (.str "one")) (sCons (sSl2 (sA (sN 0 F_law_signs) sNil) (oS (sV 4)) (oS (s2 gAdd (sV 4) (sC (.int 7))))) sNil))) sNil)))))
 (sSeq (sSet 5 (s2 gAdd (sV 5) (sA gLst (sCons (sA gTup (sCons (sC (.str "one")) (sCons (sC (.str "")) sNil))) (sCons (sA gTup (sCons (sC (.str "one")) sNil)) (sCons (sA gTup (sCons (sC (.str "one")) (sCons (sV 1) (sCons (sV 1) sNil)))) (sCons (sA gTup (sCons (sC (.str "one")) (sCons (sC .non) sNil))) (sCons (sA gTup (sCons (sC (.str "one")) (sCons (sA gLst (sCons (sV 1) sNil)) sNil))) (sCons (sA gTup (sCons (sC (.str "one")) (sCons (sA gTup (sCons (sV 1) sNil)) sNil))) sNil)))))))))
 (sSeq (sSet 5 (s2 gAdd (sV 5) (sA gLst (sCons (sA gLst (sCons (sC (.str "one")) (sCons (sV 1) sNil))) (sCons (sV 1) (sCons (sA gTup (sCons (sC (.str "One")) (sCons (sV 1) sNil))) (sCons (sA gTup (sCons (sC (.str "ones")) (sCons (sV 1) sNil))) (sCons (sA gTup (sCons (sV 1) (sCons (sC .non) sNil))) (sCons (sA gTup (sCons (sC (.str "")) (sCons (sV 1) sNil))) (sCons (sA gTup (sCons (sC (.str "one")) (sCons (sC (.int 3)) sNil))) sNil))))))))))
 (sSeq (sSet 5 (s2 gAdd (sV 5) (sA gLst (sCons (sA gTup (sCons (sC (.int 1)) (sCons (sV 1) sNil))) (sCons (sA gTup (sCons (sC .non) (sCons (sV 1) sNil))) (sCons (sA gTup (sCons (sA gTup (sCons (sC (.str "one")) sNil)) (sCons (sV 1) sNil))) (sCons (sA gTup (sCons (sC (.bl true)) (sCons (sV 1) sNil))) (sCons (sC .non) (sCons (sC (.int 7)) (sCons (sC (.bl true)) (sCons (sA gTup sNil) (sCons sDNew sNil))))))))))))
 (sRet (s2 gAdd (sV 5) (sA gLst (sCons (sC (.str "one")) (sCons (sA gLst sNil) (sCons (s1 gNeg (sC (.int 1))) (sCons (sA gTup (sCons (sA gLst (sCons (sC (.str "one")) sNil)) (sCons (sV 1) sNil))) (sCons (sA gTup (sCons sDNew (sCons (sV 1) sNil))) sNil))))))))))))))))
def Grow (h h' : Hd) : Prop := ∃ g, h' = h ++ g
theorem Grow.refl (h : Hd) : Grow h h := ⟨[], (List.append_nil h).symm⟩
theorem Grow.trans {h h1 h2 : Hd} (a : Grow h h1) (b : Grow h1 h2) : Grow h h2 := by
  obtain ⟨g, rfl⟩ := a
  obtain ⟨g', rfl⟩ := b
  exact ⟨g ++ g', List.append_assoc ..⟩
theorem Grow.app (h g : Hd) : Grow h (h ++ g) := ⟨g, rfl⟩
theorem Grow.get {h h1 : Hd} {i : Nat} {o : O} (a : Grow h h1) (e : h[i]? = some o) : h1[i]? = some o := by obtain ⟨g, rfl⟩ := a; exact get_left e
theorem Grow.len {h h1 : Hd} (a : Grow h h1) : h.length ≤ h1.length := by obtain ⟨g, rfl⟩ := a; simp
theorem Grow.pen {h h1 : Hd} {p n : Nat} (a : Grow h h1) (P : Pen h p n) : Pen h1 p n := by obtain ⟨g, rfl⟩ := a; exact Pen.app P
theorem Grow.keep {h h1 : Hd} (a : Grow h h1) (p : Nat) : Keep p h h1 := by obtain ⟨g, rfl⟩ := a; exact Keep.app _ _ _
theorem t_more {i : Nat} {τ : Sd} {h h1 : Hd} {a : Nat} {xs ds : List D} {K : SA} (et : τ[i]? = some (some (.ref a))) (ha : h[a]? = some (.lst xs)) (ek : K τ h = .ok ds h1) (gr : Grow h h1) (l : xs.length + ds.length ≤ 1000) :
    ∃ a' h2, s2 gAdd (sV i) (sA gLst K) τ h = .ok (.ref a') h2 ∧ Grow h1 h2 ∧ h2[a']? = some (.lst (xs ++ ds)) ∧ h1.length ≤ a' := by
  refine ⟨(h1 ++ [O.lst ds]).length, h1 ++ [O.lst ds] ++ [.lst (xs ++ ds)], ?_, (Grow.app ..).trans (Grow.app ..), get_last, by simp⟩
  refine e_2 (e_v et) (e_a ek (r := .ok (.ref h1.length) (h1 ++ [.lst ds])) ?_) (add_lists (get_left (gr.get ha)) get_last (by show _ ≤ 16777216; omega))
  simp only [MI.gLst]
  rw [if_pos (by show _ ≤ 16777216; omega)]
def LB (h : Hd) (ds : List D) : Prop := ∀ d ∈ ds, Bad d ∧ alD h d
theorem lb_nil {h : Hd} : LB h [] := fun d hd => by cases hd
theorem lb_cons {h : Hd} {d : D} {ds : List D} (b : Bad d) (a : alD h d) (r : LB h ds) : LB h (d :: ds) := fun e he => by
  rcases List.mem_cons.mp he with rfl | he
  · exact ⟨b, a⟩
  · exact r e he
theorem LB.app {h : Hd} {xs ys : List D} (a : LB h xs) (b : LB h ys) : LB h (xs ++ ys) := fun d hd => by
  rcases List.mem_append.mp hd with hd | hd
  · exact a d hd
  · exact b d hd
theorem LB.up {h h' : Hd} {xs : List D} (a : LB h xs) (l : h.length ≤ h'.length) : LB h' xs := fun d hd => ⟨(a d hd).1, al_up l (a d hd).2⟩
theorem bad_sn (S : Str) : Bad (.tup [.str S, .non]) := by
  cases f : formB (.tup [.str S, .non]) with
  | false => exact .form f
  | true =>
    rcases form_cases f with ⟨x, e, u⟩ | ⟨ps, e⟩ | ⟨ps, e⟩ | ⟨x, e⟩ | ⟨x, lo, hi, e⟩
    · injection e with e; injection e with _ e; injection e with e _; subst e; cases u
    · injection e with e; injection e with _ e; injection e with e _; cases e
    · injection e with e; injection e with _ e; injection e with e _; cases e
    · injection e with e; injection e with e1 e; injection e with e _; subst e; injection e1 with e1; subst e1
      exact bad_many (.form rfl)
    · injection e with e; injection e with _ e; injection e with e e2; cases e2
noncomputable def F_law_odd_ones : SF := gcF (bodyR (b_law_odd_ones F_law_signs F_law_some F_law_take) 6)
theorem unl_twice {x : Str} (h : ¬ x.cps.toList.Nodup) : unlB x = false := by
  have : ((((L2.dedup x.cps.toList).length : Nat) : Int) == (x.length : Int)) = false := by
    rw [beq_eq_false_iff_ne]
    intro z
    apply h
    rw [← dedup_len, len_l]
    omega
  simp only [unlB, this, Bool.false_and, Bool.and_false]
theorem unl_odd {x : Str} {c : Nat} (h : c ∈ x.cps.toList) (s : signB c = false) : unlB x = false := by
  have : (x.cps.toList.map signB).all id = false := by
    rw [List.all_eq_false]
    exact ⟨false, List.mem_map.mpr ⟨c, h, s⟩, by decide⟩
  simp only [unlB, this, Bool.and_false]
theorem unl_long {x : Str} (h : 6 < x.length) : unlB x = false := by
  have : decide ((x.length : Int) ≤ 6) = false := decide_eq_false (by omega)
  simp only [unlB, this, Bool.false_and, Bool.and_false]
theorem odd_ones_lists {S : Str} (hS : S.length ≤ 5) {p : Nat} {t2 t3 t4 : Option D} {h : Hd} {a : Nat} {xs : List D} (ha : h[a]? = some (.lst xs)) (lx : xs.length ≤ 100) (lb : LB h xs) (la : p < a) :
    ∃ a' h' ys, (sSeq (sSet 5 (s2 gAdd (sV 5) (sA gLst (sCons (sA gTup (sCons (sC (.str "one")) (sCons (sC (.str "")) sNil))) (sCons (sA gTup (sCons (sC (.str "one")) sNil)) (sCons (sA gTup (sCons (sC (.str "one")) (sCons (sV 1) (sCons (sV 1) sNil)))) (sCons (sA gTup (sCons (sC (.str "one")) (sCons (sC .non) sNil))) (sCons (sA gTup (sCons (sC (.str "one")) (sCons (sA gLst (sCons (sV 1) sNil)) sNil))) (sCons (sA gTup (sCons (sC (.str "one")) (sCons (sA gTup (sCons (sV 1) sNil)) sNil))) sNil)))))))))
 (sSeq (sSet 5 (s2 gAdd (sV 5) (sA gLst (sCons (sA gLst (sCons (sC (.str "one")) (sCons (sV 1) sNil))) (sCons (sV 1) (sCons (sA gTup (sCons (sC (.str "One")) (sCons (sV 1) sNil))) (sCons (sA gTup (sCons (sC (.str "ones")) (sCons (sV 1) sNil))) (sCons (sA gTup (sCons (sV 1) (sCons (sC .non) sNil))) (sCons (sA gTup (sCons (sC (.str "")) (sCons (sV 1) sNil))) (sCons (sA gTup (sCons (sC (.str "one")) (sCons (sC (.int 3)) sNil))) sNil))))))))))
 (sSeq (sSet 5 (s2 gAdd (sV 5) (sA gLst (sCons (sA gTup (sCons (sC (.int 1)) (sCons (sV 1) sNil))) (sCons (sA gTup (sCons (sC .non) (sCons (sV 1) sNil))) (sCons (sA gTup (sCons (sA gTup (sCons (sC (.str "one")) sNil)) (sCons (sV 1) sNil))) (sCons (sA gTup (sCons (sC (.bl true)) (sCons (sV 1) sNil))) (sCons (sC .non) (sCons (sC (.int 7)) (sCons (sC (.bl true)) (sCons (sA gTup sNil) (sCons sDNew sNil))))))))))))
 (sRet (s2 gAdd (sV 5) (sA gLst (sCons (sC (.str "one")) (sCons (sA gLst sNil) (sCons (s1 gNeg (sC (.int 1))) (sCons (sA gTup (sCons (sA gLst (sCons (sC (.str "one")) sNil)) (sCons (sV 1) sNil))) (sCons (sA gTup (sCons sDNew (sCons (sV 1) sNil))) sNil))))))))))) [some (.ref p), some (.str S), t2, t3, t4, some (.ref a)] h = .rt (.ref a') h' ∧ Grow h h' ∧ h'[a']? = some (.lst (xs ++ ys)) ∧ LB h' (xs ++ ys) ∧ ys.length ≤ 100 ∧ h.length ≤ a' := by
  have al : ∀ n : Nat, n ≤ 5 → n ≤ 1000 := fun _ _ => by omega
  obtain ⟨ds1, k1, ek1, gk1, lk1, nk1⟩ : ∃ ds k, ((sCons (sA gTup (sCons (sC (.str "one")) (sCons (sC (.str "")) sNil))) (sCons (sA gTup (sCons (sC (.str "one")) sNil)) (sCons (sA gTup (sCons (sC (.str "one")) (sCons (sV 1) (sCons (sV 1) sNil)))) (sCons (sA gTup (sCons (sC (.str "one")) (sCons (sC .non) sNil))) (sCons (sA gTup (sCons (sC (.str "one")) (sCons (sA gLst (sCons (sV 1) sNil)) sNil))) (sCons (sA gTup (sCons (sC (.str "one")) (sCons (sA gTup (sCons (sV 1) sNil)) sNil))) sNil)))))) : SA) [some (.ref p), some (.str S), t2, t3, t4, some (.ref a)] h = .ok ds k ∧ Grow h k ∧ LB k ds ∧ ds.length ≤ 20 := ⟨_, _, (e_cons (e_a (e_cons e_c (e_cons e_c e_nil)) rfl) (e_cons (e_a (e_cons e_c e_nil) rfl) (e_cons (e_a (e_cons e_c (e_cons (e_v rfl) (e_cons (e_v rfl) e_nil))) rfl) (e_cons (e_a (e_cons e_c (e_cons e_c e_nil)) rfl) (e_cons (e_a (e_cons e_c (e_cons (e_a (e_cons (e_v rfl) e_nil) rfl) e_nil)) rfl) (e_cons (e_a (e_cons e_c (e_cons (e_a (e_cons (e_v rfl) e_nil) rfl) e_nil)) rfl) e_nil)))))), by first | exact Grow.refl _ | exact Grow.app _ _ | exact (Grow.app _ _).trans (Grow.app _ _) | exact ((Grow.app _ _).trans (Grow.app _ _)).trans (Grow.app _ _), (lb_cons (.form rfl) (by simp only [alD, alDs, and_true, true_and, List.length_append, List.length_cons, List.length_nil]; first | done | decide | omega | (refine ⟨?_, ?_⟩ <;> first | decide | omega | (refine ⟨?_, ?_⟩ <;> first | decide | omega))) (lb_cons (.form rfl) (by simp only [alD, alDs, and_true, true_and, List.length_append, List.length_cons, List.length_nil]; first | done | decide | omega | (refine ⟨?_, ?_⟩ <;> first | decide | omega | (refine ⟨?_, ?_⟩ <;> first | decide | omega))) (lb_cons (.form rfl) (by simp only [alD, alDs, and_true, true_and, List.length_append, List.length_cons, List.length_nil]; first | done | decide | omega | (refine ⟨?_, ?_⟩ <;> first | decide | omega | (refine ⟨?_, ?_⟩ <;> first | decide | omega))) (lb_cons (.form rfl) (by simp only [alD, alDs, and_true, true_and, List.length_append, List.length_cons, List.length_nil]; first | done | decide | omega | (refine ⟨?_, ?_⟩ <;> first | decide | omega | (refine ⟨?_, ?_⟩ <;> first | decide | omega))) (lb_cons (.form rfl) (by simp only [alD, alDs, and_true, true_and, List.length_append, List.length_cons, List.length_nil]; first | done | decide | omega | (refine ⟨?_, ?_⟩ <;> first | decide | omega | (refine ⟨?_, ?_⟩ <;> first | decide | omega))) (lb_cons (.form rfl) (by simp only [alD, alDs, and_true, true_and, List.length_append, List.length_cons, List.length_nil]; first | done | decide | omega | (refine ⟨?_, ?_⟩ <;> first | decide | omega | (refine ⟨?_, ?_⟩ <;> first | decide | omega))) lb_nil)))))), by simp⟩
  obtain ⟨a1, h1, e1, g1, ha1, la1⟩ := t_more (i := 5) rfl ha ek1 gk1 (by first | omega | (simp only [List.length_append]; omega))
  obtain ⟨ds2, k2, ek2, gk2, lk2, nk2⟩ : ∃ ds k, ((sCons (sA gLst (sCons (sC (.str "one")) (sCons (sV 1) sNil))) (sCons (sV 1) (sCons (sA gTup (sCons (sC (.str "One")) (sCons (sV 1) sNil))) (sCons (sA gTup (sCons (sC (.str "ones")) (sCons (sV 1) sNil))) (sCons (sA gTup (sCons (sV 1) (sCons (sC .non) sNil))) (sCons (sA gTup (sCons (sC (.str "")) (sCons (sV 1) sNil))) (sCons (sA gTup (sCons (sC (.str "one")) (sCons (sC (.int 3)) sNil))) sNil))))))) : SA) [some (.ref p), some (.str S), t2, t3, t4, some (.ref a1)] h1 = .ok ds k ∧ Grow h1 k ∧ LB k ds ∧ ds.length ≤ 20 := ⟨_, _, (e_cons (e_a (e_cons e_c (e_cons (e_v rfl) e_nil)) rfl) (e_cons (e_v rfl) (e_cons (e_a (e_cons e_c (e_cons (e_v rfl) e_nil)) rfl) (e_cons (e_a (e_cons e_c (e_cons (e_v rfl) e_nil)) rfl) (e_cons (e_a (e_cons (e_v rfl) (e_cons e_c e_nil)) rfl) (e_cons (e_a (e_cons e_c (e_cons (e_v rfl) e_nil)) rfl) (e_cons (e_a (e_cons e_c (e_cons e_c e_nil)) rfl) e_nil))))))), by first | exact Grow.refl _ | exact Grow.app _ _ | exact (Grow.app _ _).trans (Grow.app _ _) | exact ((Grow.app _ _).trans (Grow.app _ _)).trans (Grow.app _ _), (lb_cons (.form rfl) (by simp only [alD, alDs, and_true, true_and, List.length_append, List.length_cons, List.length_nil]; first | done | decide | omega | (refine ⟨?_, ?_⟩ <;> first | decide | omega | (refine ⟨?_, ?_⟩ <;> first | decide | omega))) (lb_cons (.form rfl) (by simp only [alD, alDs, and_true, true_and, List.length_append, List.length_cons, List.length_nil]; first | done | decide | omega | (refine ⟨?_, ?_⟩ <;> first | decide | omega | (refine ⟨?_, ?_⟩ <;> first | decide | omega))) (lb_cons (.form rfl) (by simp only [alD, alDs, and_true, true_and, List.length_append, List.length_cons, List.length_nil]; first | done | decide | omega | (refine ⟨?_, ?_⟩ <;> first | decide | omega | (refine ⟨?_, ?_⟩ <;> first | decide | omega))) (lb_cons (.form rfl) (by simp only [alD, alDs, and_true, true_and, List.length_append, List.length_cons, List.length_nil]; first | done | decide | omega | (refine ⟨?_, ?_⟩ <;> first | decide | omega | (refine ⟨?_, ?_⟩ <;> first | decide | omega))) (lb_cons (bad_sn S) (by simp only [alD, alDs, and_true, true_and, List.length_append, List.length_cons, List.length_nil]; first | done | decide | omega | (refine ⟨?_, ?_⟩ <;> first | decide | omega | (refine ⟨?_, ?_⟩ <;> first | decide | omega))) (lb_cons (.form rfl) (by simp only [alD, alDs, and_true, true_and, List.length_append, List.length_cons, List.length_nil]; first | done | decide | omega | (refine ⟨?_, ?_⟩ <;> first | decide | omega | (refine ⟨?_, ?_⟩ <;> first | decide | omega))) (lb_cons (.form rfl) (by simp only [alD, alDs, and_true, true_and, List.length_append, List.length_cons, List.length_nil]; first | done | decide | omega | (refine ⟨?_, ?_⟩ <;> first | decide | omega | (refine ⟨?_, ?_⟩ <;> first | decide | omega))) lb_nil))))))), by simp⟩
  obtain ⟨a2, h2, e2, g2, ha2, la2⟩ := t_more (i := 5) rfl ha1 ek2 gk2 (by first | omega | (simp only [List.length_append]; omega))
  obtain ⟨ds3, k3, ek3, gk3, lk3, nk3⟩ : ∃ ds k, ((sCons (sA gTup (sCons (sC (.int 1)) (sCons (sV 1) sNil))) (sCons (sA gTup (sCons (sC .non) (sCons (sV 1) sNil))) (sCons (sA gTup (sCons (sA gTup (sCons (sC (.str "one")) sNil)) (sCons (sV 1) sNil))) (sCons (sA gTup (sCons (sC (.bl true)) (sCons (sV 1) sNil))) (sCons (sC .non) (sCons (sC (.int 7)) (sCons (sC (.bl true)) (sCons (sA gTup sNil) (sCons sDNew sNil))))))))) : SA) [some (.ref p), some (.str S), t2, t3, t4, some (.ref a2)] h2 = .ok ds k ∧ Grow h2 k ∧ LB k ds ∧ ds.length ≤ 20 := ⟨_, _, (e_cons (e_a (e_cons e_c (e_cons (e_v rfl) e_nil)) rfl) (e_cons (e_a (e_cons e_c (e_cons (e_v rfl) e_nil)) rfl) (e_cons (e_a (e_cons (e_a (e_cons e_c e_nil) rfl) (e_cons (e_v rfl) e_nil)) rfl) (e_cons (e_a (e_cons e_c (e_cons (e_v rfl) e_nil)) rfl) (e_cons e_c (e_cons e_c (e_cons e_c (e_cons (e_a e_nil rfl) (e_cons rfl e_nil))))))))), by first | exact Grow.refl _ | exact Grow.app _ _ | exact (Grow.app _ _).trans (Grow.app _ _) | exact ((Grow.app _ _).trans (Grow.app _ _)).trans (Grow.app _ _), (lb_cons (.form rfl) (by simp only [alD, alDs, and_true, true_and, List.length_append, List.length_cons, List.length_nil]; first | done | decide | omega | (refine ⟨?_, ?_⟩ <;> first | decide | omega | (refine ⟨?_, ?_⟩ <;> first | decide | omega))) (lb_cons (.form rfl) (by simp only [alD, alDs, and_true, true_and, List.length_append, List.length_cons, List.length_nil]; first | done | decide | omega | (refine ⟨?_, ?_⟩ <;> first | decide | omega | (refine ⟨?_, ?_⟩ <;> first | decide | omega))) (lb_cons (.form rfl) (by simp only [alD, alDs, and_true, true_and, List.length_append, List.length_cons, List.length_nil]; first | done | decide | omega | (refine ⟨?_, ?_⟩ <;> first | decide | omega | (refine ⟨?_, ?_⟩ <;> first | decide | omega))) (lb_cons (.form rfl) (by simp only [alD, alDs, and_true, true_and, List.length_append, List.length_cons, List.length_nil]; first | done | decide | omega | (refine ⟨?_, ?_⟩ <;> first | decide | omega | (refine ⟨?_, ?_⟩ <;> first | decide | omega))) (lb_cons (.form rfl) (by simp only [alD, alDs, and_true, true_and, List.length_append, List.length_cons, List.length_nil]; first | done | decide | omega | (refine ⟨?_, ?_⟩ <;> first | decide | omega | (refine ⟨?_, ?_⟩ <;> first | decide | omega))) (lb_cons (.form rfl) (by simp only [alD, alDs, and_true, true_and, List.length_append, List.length_cons, List.length_nil]; first | done | decide | omega | (refine ⟨?_, ?_⟩ <;> first | decide | omega | (refine ⟨?_, ?_⟩ <;> first | decide | omega))) (lb_cons (.form rfl) (by simp only [alD, alDs, and_true, true_and, List.length_append, List.length_cons, List.length_nil]; first | done | decide | omega | (refine ⟨?_, ?_⟩ <;> first | decide | omega | (refine ⟨?_, ?_⟩ <;> first | decide | omega))) (lb_cons (.form rfl) (by simp only [alD, alDs, and_true, true_and, List.length_append, List.length_cons, List.length_nil]; first | done | decide | omega | (refine ⟨?_, ?_⟩ <;> first | decide | omega | (refine ⟨?_, ?_⟩ <;> first | decide | omega))) (lb_cons (.form rfl) (by simp only [alD, alDs, and_true, true_and, List.length_append, List.length_cons, List.length_nil]; first | done | decide | omega | (refine ⟨?_, ?_⟩ <;> first | decide | omega | (refine ⟨?_, ?_⟩ <;> first | decide | omega))) lb_nil))))))))), by simp⟩
  obtain ⟨a3, h3, e3, g3, ha3, la3⟩ := t_more (i := 5) rfl ha2 ek3 gk3 (by first | omega | (simp only [List.length_append]; omega))
  obtain ⟨ds4, k4, ek4, gk4, lk4, nk4⟩ : ∃ ds k, ((sCons (sC (.str "one")) (sCons (sA gLst sNil) (sCons (s1 gNeg (sC (.int 1))) (sCons (sA gTup (sCons (sA gLst (sCons (sC (.str "one")) sNil)) (sCons (sV 1) sNil))) (sCons (sA gTup (sCons sDNew (sCons (sV 1) sNil))) sNil))))) : SA) [some (.ref p), some (.str S), t2, t3, t4, some (.ref a3)] h3 = .ok ds k ∧ Grow h3 k ∧ LB k ds ∧ ds.length ≤ 20 := ⟨_, _, (e_cons e_c (e_cons (e_a e_nil rfl) (e_cons (e_1 e_c rfl) (e_cons (e_a (e_cons (e_a (e_cons e_c e_nil) rfl) (e_cons (e_v rfl) e_nil)) rfl) (e_cons (e_a (e_cons rfl (e_cons (e_v rfl) e_nil)) rfl) e_nil))))), by first | exact Grow.refl _ | exact Grow.app _ _ | exact (Grow.app _ _).trans (Grow.app _ _) | exact ((Grow.app _ _).trans (Grow.app _ _)).trans (Grow.app _ _), (lb_cons (.form rfl) (by simp only [alD, alDs, and_true, true_and, List.length_append, List.length_cons, List.length_nil]; first | done | decide | omega | (refine ⟨?_, ?_⟩ <;> first | decide | omega | (refine ⟨?_, ?_⟩ <;> first | decide | omega))) (lb_cons (.form rfl) (by simp only [alD, alDs, and_true, true_and, List.length_append, List.length_cons, List.length_nil]; first | done | decide | omega | (refine ⟨?_, ?_⟩ <;> first | decide | omega | (refine ⟨?_, ?_⟩ <;> first | decide | omega))) (lb_cons (.form rfl) (by simp only [alD, alDs, and_true, true_and, List.length_append, List.length_cons, List.length_nil]; first | done | decide | omega | (refine ⟨?_, ?_⟩ <;> first | decide | omega | (refine ⟨?_, ?_⟩ <;> first | decide | omega))) (lb_cons (.form rfl) (by simp only [alD, alDs, and_true, true_and, List.length_append, List.length_cons, List.length_nil]; first | done | decide | omega | (refine ⟨?_, ?_⟩ <;> first | decide | omega | (refine ⟨?_, ?_⟩ <;> first | decide | omega))) (lb_cons (.form rfl) (by simp only [alD, alDs, and_true, true_and, List.length_append, List.length_cons, List.length_nil]; first | done | decide | omega | (refine ⟨?_, ?_⟩ <;> first | decide | omega | (refine ⟨?_, ?_⟩ <;> first | decide | omega))) lb_nil))))), by simp⟩
  obtain ⟨a4, h4, e4, g4, ha4, la4⟩ := t_more (i := 5) rfl ha3 ek4 gk4 (by first | omega | (simp only [List.length_append]; omega))
  have G1 := gk1.trans g1
  have G2 := G1.trans (gk2.trans g2)
  have G3 := G2.trans (gk3.trans g3)
  have G4 := G3.trans (gk4.trans g4)
  refine ⟨a4, h4, ds1 ++ ds2 ++ ds3 ++ ds4, t_seq (t_set e1) (t_seq (t_set e2) (t_seq (t_set e3) (t_ret e4))), G4, by rw [ha4]; simp, ?_, by simp only [List.length_append]; omega, by have := G3.len; have := gk4.len; omega⟩
  have q2 := (gk2.trans g2).len
  have q3 := (gk3.trans g3).len
  have q4 := (gk4.trans g4).len
  have p1 := g1.len
  have p2 := g2.len
  have p3 := g3.len
  have p4 := g4.len
  refine LB.app (lb.up G4.len) ((((lk1.up ?_).app (lk2.up ?_)).app (lk3.up ?_)).app (lk4.up ?_)) <;> omega
end Q4
set_option Elab.async false
set_option linter.all false
set_option maxRecDepth 100000
set_option maxHeartbeats 4000000
namespace Q4
open PySem PySem.Spec L2 MI PEN SHF
open SHP (Sh)
theorem twice_nd {l : List Nat} {c : Nat} {j : Nat} (m : c ∈ l) : ¬ ((l.take j ++ [c]) ++ l.drop j).Nodup := by
  intro nd
  have pm : ((l.take j ++ [c]) ++ l.drop j).Perm (c :: (l.take j ++ l.drop j)) := by
    rw [List.append_assoc]
    exact List.perm_middle
  rw [List.take_append_drop] at pm
  exact (List.nodup_cons.mp (pm.nodup_iff.mp nd)).1 m
theorem sl_to {S : Str} {h : Hd} (l : S.length ≤ 1000) (j : Nat) : gSl2 (.str S) none (some (j : Int)) h = .ok (.str ⟨(S.cps.toList.take j).toArray⟩) h := by
  show (if S.length ≤ LINE then R.ok (D.str ⟨(cutL S.cps.toList none (some (j : Int))).toArray⟩) h else .no) = _
  rw [if_pos (by show _ ≤ 16777216; omega), cutL_to]
theorem sl_from {S : Str} {h : Hd} (l : S.length ≤ 1000) (j : Nat) : gSl2 (.str S) (some (j : Int)) none h = .ok (.str ⟨(S.cps.toList.drop j).toArray⟩) h := by
  show (if S.length ≤ LINE then R.ok (D.str ⟨(cutL S.cps.toList (some (j : Int)) none).toArray⟩) h else .no) = _
  rw [if_pos (by show _ ≤ 16777216; omega), cutL_from]
theorem sl_ft {S : Str} {h : Hd} (l : S.length ≤ 1000) (j k : Nat) : gSl2 (.str S) (some (j : Int)) (some (k : Int)) h = .ok (.str ⟨((S.cps.toList.drop j).take (k - j)).toArray⟩) h := by
  show (if S.length ≤ LINE then R.ok (D.str ⟨(cutL S.cps.toList (some (j : Int)) (some (k : Int))).toArray⟩) h else .no) = _
  rw [if_pos (by show _ ≤ 16777216; omega), cutL_ft]
theorem add_str {x y : Str} {h : Hd} (l : x.length + y.length ≤ 1000) : gAdd (.str x) (.str y) h = .ok (.str (x ++ y)) h := by
  show (if x.length + y.length ≤ LINE then R.ok (D.str (x ++ y)) h else .no) = _
  rw [if_pos (by show _ ≤ 16777216; omega)]
theorem len_str {x : Str} {h : Hd} (l : x.length ≤ 1000) : gLen [.str x] h = .ok (.int x.length) h := by
  show (if x.length ≤ LINE then R.ok (D.int x.length) h else .no) = _
  rw [if_pos (by show _ ≤ 16777216; omega)]
theorem ix_str {x : Str} {h : Hd} {j : Nat} (l : x.length ≤ 1000) (hj : j < x.cps.toList.length) : gIx (.str x) (.int (j : Int)) h = .ok (.str ⟨#[x.cps.toList[j]]⟩) h := by
  have hat : atI x.cps.toList (j : Int) = some x.cps.toList[j] := atI_nat (List.getElem?_eq_getElem hj)
  simp only [gIx, hat]
  rw [if_pos (by show _ ≤ 16777216; omega)]
theorem odd_ones_ok {h : Hd} {p N : Nat} (P : Pen h p N) (hN : N ≤ 800000000000) :
    ∃ a h' xs, F_law_odd_ones [.ref p] h = .ok (.ref a) h' ∧ h'[a]? = some (.lst xs) ∧ 1 ≤ xs.length ∧ xs.length ≤ 300 ∧ LB h' xs ∧ Pen h' p (N + 20) ∧ Keep p h h' ∧ h.length ≤ a := by
  have sgl := signs_len
  obtain ⟨S, o1, e1, S1, S5, P1, _⟩ := some_ok take_ok h p N (PEN.s1 ++ s2') 5 P (by omega) (by decide) (by rw [signs_len]; decide) (by rw [signs_len]; decide)
  have e1' : F_law_some [.ref p, .str (PEN.s1 ++ s2'), .int 5] h = .ok (.str S) (h.set p o1) := e1
  have es : ∀ h', F_law_signs [] h' = .ok (.str (PEN.s1 ++ s2')) h' := fun h' => signs_ok h'
  have K1 : Keep p h (h.set p o1) := ⟨by simp, fun i hi ne => List.getElem?_set_ne (Ne.symm ne)⟩
  clear e1
  generalize PEN.s1 ++ s2' = SG at e1' es sgl
  generalize h.set p o1 = h1 at P1 K1 e1'
  have lS : S.length ≤ 1000 := by omega
  obtain ⟨r, h2, e2, r0, r1, P2, K2⟩ := take_call (m := (S.length : Int) + 1) P1 (by omega) (by omega) (by omega)
  obtain ⟨j, rfl⟩ := Int.eq_ofNat_of_zero_le r0
  obtain ⟨q, h3, e3, q0, q1, P3, K3⟩ := take_call (m := (S.length : Int)) P2 (by omega) (by omega) (by omega)
  obtain ⟨k, rfl⟩ := Int.eq_ofNat_of_zero_le q0
  obtain ⟨st, h4, e4, st0, st1, P4, K4⟩ := take_call (m := 88) P3 (by omega) (by decide) (by decide)
  obtain ⟨st, rfl⟩ := Int.eq_ofNat_of_zero_le st0
  have hk : k < S.cps.toList.length := by rw [len_l]; omega
  have lA : (⟨(S.cps.toList.take j).toArray⟩ : Str).length ≤ 5 := by rw [mk_len, List.length_take, len_l]; omega
  have lB : (⟨(S.cps.toList.drop j).toArray⟩ : Str).length ≤ 5 := by rw [mk_len, List.length_drop, len_l]; omega
  have lC : (⟨#[S.cps.toList[k]]⟩ : Str).length = 1 := rfl
  have lT : (PySem.Str.ofString "\t").length = 1 := by decide
  have u1 : unlB ((⟨(S.cps.toList.take j).toArray⟩ ++ ⟨#[S.cps.toList[k]]⟩) ++ ⟨(S.cps.toList.drop j).toArray⟩) = false := by
    apply unl_twice
    rw [app_l, app_l]
    show ¬ ((S.cps.toList.take j ++ [S.cps.toList[k]]) ++ S.cps.toList.drop j).Nodup
    exact twice_nd (List.getElem_mem hk)
  have u2 : unlB ((⟨(S.cps.toList.take j).toArray⟩ ++ PySem.Str.ofString "\t") ++ ⟨(S.cps.toList.drop j).toArray⟩) = false := by
    refine unl_odd (c := 9) ?_ rfl
    rw [app_l, app_l]
    exact List.mem_append_left _ (List.mem_append_right _ (by rw [show (PySem.Str.ofString "\t").cps.toList = [9] from rfl]; simp))
  have l3 : (⟨((SG.cps.toList.drop st).take (st + 7 - st)).toArray⟩ : Str).length = 7 := by
    rw [mk_len, List.length_take, List.length_drop, len_l]; omega
  have u3 := unl_long (show 6 < (⟨((SG.cps.toList.drop st).take (st + 7 - st)).toArray⟩ : Str).length by omega)
  have lW1 : ((⟨(S.cps.toList.take j).toArray⟩ ++ ⟨#[S.cps.toList[k]]⟩) ++ ⟨(S.cps.toList.drop j).toArray⟩ : Str).length ≤ 1000 := by rw [app_len, app_len]; omega
  have lW2 : ((⟨(S.cps.toList.take j).toArray⟩ ++ PySem.Str.ofString "\t") ++ ⟨(S.cps.toList.drop j).toArray⟩ : Str).length ≤ 1000 := by rw [app_len, app_len]; omega
  have lAC : (⟨(S.cps.toList.take j).toArray⟩ ++ ⟨#[S.cps.toList[k]]⟩ : Str).length ≤ 6 := by rw [app_len]; omega
  have lAT : (⟨(S.cps.toList.take j).toArray⟩ ++ PySem.Str.ofString "\t" : Str).length ≤ 6 := by rw [app_len]; omega
  have s3 : gSl2 (.str SG) (some (st : Int)) (some ((st : Int) + 7)) h4 = .ok (.str ⟨((SG.cps.toList.drop st).take (st + 7 - st)).toArray⟩) h4 := sl_ft (by omega) st (st + 7)
  have get : (h4 ++ [O.lst [.tup [.str "one", .str ((⟨(S.cps.toList.take j).toArray⟩ ++ ⟨#[S.cps.toList[k]]⟩) ++ ⟨(S.cps.toList.drop j).toArray⟩)], .tup [.str "one", .str ((⟨(S.cps.toList.take j).toArray⟩ ++ PySem.Str.ofString "\t") ++ ⟨(S.cps.toList.drop j).toArray⟩)], .tup [.str "one", .str ⟨((SG.cps.toList.drop st).take (st + 7 - st)).toArray⟩]]])[h4.length]? = some _ := get_last
  have o7 : (PySem.Str.ofString "one").length ≤ 1000 := by decide
  obtain ⟨a', h', ys, er, G, ha', lb', ly, la'⟩ := odd_ones_lists (S := S) (by omega) (p := p) (t2 := some (.int (j : Nat))) (t3 := some (.str ((⟨(S.cps.toList.take j).toArray⟩ ++ ⟨#[S.cps.toList[k]]⟩) ++ ⟨(S.cps.toList.drop j).toArray⟩))) (t4 := some (.int (st : Nat))) get (by simp)
    (lb_cons (.form u1) (by simp only [alD, alDs, and_true]; exact ⟨o7, lW1⟩) (lb_cons (.form u2) (by simp only [alD, alDs, and_true]; exact ⟨o7, lW2⟩) (lb_cons (.form u3) (by simp only [alD, alDs, and_true]; exact ⟨o7, by omega⟩) lb_nil))) (Pen.lt P4)
  have KA : Keep p h h4 := ((K1.trans K2).trans K3).trans K4
  refine ⟨a', h', _, ?_, ha', by simp, by simp only [List.length_append, List.length_cons, List.length_nil]; omega, lb', ((Grow.app h4 _).trans G).pen (P4.up (by first | omega | simp)), KA.trans (((Grow.app h4 _).trans G).keep p), by have := KA.1; simp at la'; omega⟩
  refine gc_keep ?_ (by have := KA.1; simp at la'; omega) (by simp; have := Pen.lt P; have := KA.1; simp at la'; omega)
  apply body_rt
  unfold b_law_odd_ones
  refine t_seq (t_set (e_a (e_cons (e_v rfl) (e_cons (e_a e_nil (e_call rfl (es _))) (e_cons e_c e_nil))) (e_call rfl e1'))) ?_
  refine t_seq (t_set (e_a (e_cons (e_v rfl) (e_cons (e_2 (e_a (e_cons (e_v rfl) e_nil) (len_str lS)) e_c rfl) e_nil)) (e_call rfl e2))) ?_
  refine t_seq (t_set (e_2 (e_2 (e_sl (e_v rfl) e_oN (e_oS (e_v rfl)) (sl_to lS j)) (e_2 (e_v rfl) (e_a (e_cons (e_v rfl) (e_cons (e_a (e_cons (e_v rfl) e_nil) (len_str lS)) e_nil)) (e_call rfl e3)) (ix_str lS hk)) (add_str (by omega))) (e_sl (e_v rfl) (e_oS (e_v rfl)) e_oN (sl_from lS j)) (add_str (by omega)))) ?_
  refine t_seq (t_set (e_a (e_cons (e_v rfl) (e_cons e_c e_nil)) (e_call rfl e4))) ?_
  refine t_seq (t_set (e_a (e_cons (e_a (e_cons e_c (e_cons (e_v rfl) e_nil)) rfl) (e_cons (e_a (e_cons e_c (e_cons (e_2 (e_2 (e_sl (e_v rfl) e_oN (e_oS (e_v rfl)) (sl_to lS j)) e_c (add_str (by omega))) (e_sl (e_v rfl) (e_oS (e_v rfl)) e_oN (sl_from lS j)) (add_str (by omega))) e_nil)) rfl) (e_cons (e_a (e_cons e_c (e_cons (e_sl (e_a e_nil (e_call rfl (es _))) (e_oS (e_v rfl)) (e_oS (e_2 (e_v rfl) e_c rfl)) s3) e_nil)) rfl) e_nil))) rfl)) ?_
  exact er
end Q4
set_option Elab.async false
set_option linter.all false
set_option maxRecDepth 100000
set_option maxHeartbeats 4000000
namespace Q4
open PySem PySem.Spec L2 MI PEN SHF
open SHP (Sh)
noncomputable def b_law_odd_parts (F_law_take : SF) : SS :=
 (sSeq (sSet 2 (sA gLst (sCons (sA gTup (sCons (sC (.str "row")) (sCons (sA gLst (sCons (sV 1) sNil)) sNil))) (sCons (sA gTup (sCons (sC (.str "row")) (sCons (s2 gMul2 (sA gTup (sCons (sV 1) sNil)) (sC (.int 7))) sNil))) (sCons (sA gTup (sCons (sC (.str "row")) sNil)) (sCons (sA gTup (sCons (sC (.str "row")) (sCons (sV 1) sNil))) (sCons (sA gTup (sCons (sC (.str "row")) (sCons (sA gTup sNil) (sCons (sA gTup sNil) sNil)))) (sCons (sA gTup (sCons (sC (.str "row")) (sCons (sC .non) sNil))) sNil))))))))
 (sSeq (sDrop (sML gApp (sV 2) (sCons (sA gTup (sCons (sC (.str "rows")) (sCons (sA gTup sNil) sNil))) sNil)))
 (sSeq (sSet 2 (s2 gAdd (sV 2) (sA gLst (sCons (sA gTup (sCons (sC (.str "either")) (sCons (sA gTup sNil) sNil))) (sCons (sA gTup (sCons (sC (.str "either")) (sCons (sA gLst (sCons (sV 1) sNil)) sNil))) (sCons (sA gTup (sCons (sC (.str "either")) (sCons (s2 gMul2 (sA gTup (sCons (sV 1) sNil)) (sC (.int 7))) sNil))) (sCons (sA gTup (sCons (sC (.str "either")) (sCons (sV 1) sNil))) (sCons (sA gTup (sCons (sC (.str "either")) sNil)) sNil))))))))
 (sSeq (sSet 2 (s2 gAdd (sV 2) (sA gLst (sCons (sA gTup (sCons (sC (.str "either")) (sCons (sA gTup (sCons (sV 1) sNil)) (sCons (sC (.int 1)) sNil)))) (sCons (sA gTup (sCons (sC (.str "many")) sNil)) (sCons (sA gTup (sCons (sC (.str "many")) (sCons (sV 1) (sCons (sV 1) sNil)))) (sCons (sA gTup (sCons (sC (.str "many")) (sCons (sA gTup (sCons (sV 1) sNil)) sNil))) (sCons (sA gTup (sCons (sC (.str "many")) (sCons (sA gLst (sCons (sV 1) sNil)) sNil))) sNil))))))))
 (sSeq (sSet 2 (s2 gAdd (sV 2) (sA gLst (sCons (sA gTup (sCons (sC (.str "many")) (sCons (sC .non) sNil))) (sCons (sA gTup (sCons (sC (.str "Many")) (sCons (sV 1) sNil))) (sCons (sA gTup (sCons (sC (.str "times")) (sCons (sV 1) sNil))) (sCons (sA gTup (sCons (sC (.str "times")) (sCons (sV 1) (sCons (sC (.int 1)) sNil)))) (sCons (sA gTup (sCons (sC (.str "times")) (sCons (sV 1) (sCons (sC (.int 1)) (sCons (sC (.int 2)) (sCons (sC (.int 3)) sNil)))))) sNil))))))))
 (sSeq (sSet 3 (s2 gAdd (sC (.int 1)) (sA (sN 2 F_law_take) (sCons (sV 0) (sCons (sC (.int 4)) sNil)))))
 (sSeq (sSet 2 (s2 gAdd (sV 2) (sA gLst (sCons (sA gTup (sCons (sC (.str "times")) (sCons (sV 1) (sCons (sV 3) (sCons (s2 gSub (sV 3) (sC (.int 1))) sNil))))) (sCons (sA gTup (sCons (sC (.str "times")) (sCons (sV 1) (sCons (s1 gNeg (sV 3)) (sCons (sV 3) sNil))))) (sCons (sA gTup (sCons (sC (.str "times")) (sCons (sV 1) (sCons (sV 3) (sCons (sC (.int 5)) sNil))))) sNil))))))
 (sSeq (sSet 2 (s2 gAdd (sV 2) (sA gLst (sCons (sA gTup (sCons (sC (.str "times")) (sCons (sV 1) (sCons (sC (.int 0)) (sCons (s2 gAdd (sC (.int 4)) (sV 3)) sNil))))) (sCons (sA gTup (sCons (sC (.str "times")) (sCons (sV 1) (sCons (sC (.bl false)) (sCons (sV 3) sNil))))) (sCons (sA gTup (sCons (sC (.str "times")) (sCons (sV 1) (sCons (sC (.int 1)) (sCons (sC (.bl true)) sNil))))) sNil))))))
 (sSeq (sSet 2 (s2 gAdd (sV 2) (sA gLst (sCons (sA gTup (sCons (sC (.str "times")) (sCons (sV 1) (sCons (sC .non) (sCons (sV 3) sNil))))) (sCons (sA gTup (sCons (sC (.str "times")) (sCons (sV 1) (sCons (sC (.int 0)) (sCons (sC (.str "1")) sNil))))) (sCons (sA gTup (sCons (sC (.str "times")) (sCons (sV 1) (sCons (sA gTup (sCons (sC (.int 0)) sNil)) (sCons (sV 3) sNil))))) sNil))))))
 (sRet (s2 gAdd (sV 2) (sA gLst (sCons (sA gLst (sCons (sC (.str "times")) (sCons (sV 1) (sCons (sC (.int 0)) (sCons (sC (.int 1)) sNil))))) (sCons (sA gTup (sCons (sC (.str "times")) (sCons (sC (.int 0)) (sCons (sC (.int 1)) (sCons (sV 1) sNil))))) (sCons (sA gTup (sCons (sC (.str "times")) (sCons (sA gTup (sCons (sV 1) sNil)) (sCons (sC (.int 0)) (sCons (sC (.int 1)) sNil))))) (sCons (sA gTup (sCons (sC (.str "many")) (sCons (sA gTup (sCons (sC (.str "many")) sNil)) sNil))) sNil))))))))))))))))
theorem e_ml {g : D → List D → Hd → R D} {f : SE} {k : SA} {τ : Sd} {h h1 h2 : Hd} {x : D} {ds : List D} {r : R D} (e1 : f τ h = .ok x h1) (il : isL x h1 = true) (e2 : k τ h1 = .ok ds h2) (e3 : g x ds h2 = r) : sML g f k τ h = r := by
  rw [sML, e1]
  show (if isL x h1 = true then _ else _) = r
  rw [if_pos il, e2]
  exact e3
theorem app_ok {h : Hd} {a : Nat} {xs : List D} {y : D} (e : h[a]? = some (.lst xs)) (l : xs.length < 1000) : gApp (.ref a) [y] h = .ok .non (h.set a (.lst (xs ++ [y]))) := by
  simp only [gApp, e]
  rw [if_pos (by show _ < 16777216; omega)]
noncomputable def F_law_odd_parts : SF := gcF (bodyR (b_law_odd_parts F_law_take) 4)
theorem odd_parts_ok {h : Hd} {p N : Nat} {pt : D} (P : Pen h p N) (hN : N ≤ 800000000000) (hp : ∃ w r, pt = .tup (.str w :: r)) (apt0 : alD h pt) :
    ∃ a h' xs, F_law_odd_parts [.ref p, pt] h = .ok (.ref a) h' ∧ h'[a]? = some (.lst xs) ∧ 1 ≤ xs.length ∧ xs.length ≤ 300 ∧ LB h' xs ∧ Pen h' p (N + 20) ∧ Keep p h h' ∧ h.length ≤ a := by
  have apt : ∀ k : Hd, h.length ≤ k.length → alD k pt := fun k l => al_up l apt0
  have mul7 : ∀ h' : Hd, gMul2 (.tup [pt]) (.int 7) h' = .ok (.tup [pt, pt, pt, pt, pt, pt, pt]) h' := fun h' => by
    simp only [gMul2]
    rw [if_pos ⟨⟨by simp, by decide, by decide⟩, by show 1 * 7 ≤ 16777216; decide⟩]
    rfl
  have bp : ∀ s : Str, s = "row" ∨ s = "either" → Bad (.tup [.str s, pt]) := fun s hs => by
    obtain ⟨w, r, rfl⟩ := hp
    exact bad_row hs (List.mem_cons_self ..) (.form rfl)
  have b1 : Bad (.tup [pt]) := by obtain ⟨w, r, rfl⟩ := hp; exact .form rfl
  have tB : nfB pt 0 4 = false := by obtain ⟨w, r, rfl⟩ := hp; rfl
  have np : ∀ a, D.ref a ≠ pt := fun a => by obtain ⟨w, r, rfl⟩ := hp; intro z; cases z
  clear hp
  obtain ⟨rr, hx, ex, rr0, rr1, Px, Kx⟩ : ∃ r h', True ∧ (0 : Int) ≤ r ∧ r < 4 ∧ True ∧ h' = h := ⟨0, h, True.intro, by decide, by decide, True.intro, rfl⟩
  clear Px Kx ex rr0 rr1
  obtain ⟨ds0, k0, ek0, gk0, lk0, nk0⟩ : ∃ ds k, ((sCons (sA gTup (sCons (sC (.str "row")) (sCons (sA gLst (sCons (sV 1) sNil)) sNil))) (sCons (sA gTup (sCons (sC (.str "row")) (sCons (s2 gMul2 (sA gTup (sCons (sV 1) sNil)) (sC (.int 7))) sNil))) (sCons (sA gTup (sCons (sC (.str "row")) sNil)) (sCons (sA gTup (sCons (sC (.str "row")) (sCons (sV 1) sNil))) (sCons (sA gTup (sCons (sC (.str "row")) (sCons (sA gTup sNil) (sCons (sA gTup sNil) sNil)))) (sCons (sA gTup (sCons (sC (.str "row")) (sCons (sC .non) sNil))) sNil)))))) : SA) [some (.ref p), some pt, none, none] h = .ok ds k ∧ Grow h k ∧ LB k ds ∧ ds.length ≤ 20 := ⟨_, _, (e_cons (e_a (e_cons e_c (e_cons (e_a (e_cons (e_v rfl) e_nil) rfl) e_nil)) rfl) (e_cons (e_a (e_cons e_c (e_cons (e_2 (e_a (e_cons (e_v rfl) e_nil) rfl) e_c (mul7 _)) e_nil)) rfl) (e_cons (e_a (e_cons e_c e_nil) rfl) (e_cons (e_a (e_cons e_c (e_cons (e_v rfl) e_nil)) rfl) (e_cons (e_a (e_cons e_c (e_cons (e_a e_nil rfl) (e_cons (e_a e_nil rfl) e_nil))) rfl) (e_cons (e_a (e_cons e_c (e_cons e_c e_nil)) rfl) e_nil)))))), by first | exact Grow.refl _ | exact Grow.app _ _ | exact (Grow.app _ _).trans (Grow.app _ _) | exact ((Grow.app _ _).trans (Grow.app _ _)).trans (Grow.app _ _), (lb_cons (.form rfl) (by simp only [alD, alDs, and_true, true_and]; first | done | ((repeat' apply And.intro) <;> first | trivial | decide | (apply apt; simp only [List.length_append, List.length_cons, List.length_nil]; omega) | (apply apt; omega) | (simp only [List.length_append, List.length_cons, List.length_nil]; omega))) (lb_cons (.form rfl) (by simp only [alD, alDs, and_true, true_and]; first | done | ((repeat' apply And.intro) <;> first | trivial | decide | (apply apt; simp only [List.length_append, List.length_cons, List.length_nil]; omega) | (apply apt; omega) | (simp only [List.length_append, List.length_cons, List.length_nil]; omega))) (lb_cons (.form rfl) (by simp only [alD, alDs, and_true, true_and]; first | done | ((repeat' apply And.intro) <;> first | trivial | decide | (apply apt; simp only [List.length_append, List.length_cons, List.length_nil]; omega) | (apply apt; omega) | (simp only [List.length_append, List.length_cons, List.length_nil]; omega))) (lb_cons (bp _ (.inl rfl)) (by simp only [alD, alDs, and_true, true_and]; first | done | ((repeat' apply And.intro) <;> first | trivial | decide | (apply apt; simp only [List.length_append, List.length_cons, List.length_nil]; omega) | (apply apt; omega) | (simp only [List.length_append, List.length_cons, List.length_nil]; omega))) (lb_cons (.form rfl) (by simp only [alD, alDs, and_true, true_and]; first | done | ((repeat' apply And.intro) <;> first | trivial | decide | (apply apt; simp only [List.length_append, List.length_cons, List.length_nil]; omega) | (apply apt; omega) | (simp only [List.length_append, List.length_cons, List.length_nil]; omega))) (lb_cons (.form rfl) (by simp only [alD, alDs, and_true, true_and]; first | done | ((repeat' apply And.intro) <;> first | trivial | decide | (apply apt; simp only [List.length_append, List.length_cons, List.length_nil]; omega) | (apply apt; omega) | (simp only [List.length_append, List.length_cons, List.length_nil]; omega))) lb_nil)))))), by simp⟩
  have get0 : (k0 ++ [O.lst ds0])[k0.length]? = some (.lst ds0) := get_last
  have G0 : Grow h (k0 ++ [O.lst ds0]) := gk0.trans (Grow.app ..)
  have lk0' : LB (k0 ++ [O.lst ds0]) ds0 := lk0.up (by simp)
  have la0 : h.length ≤ k0.length := gk0.len
  have E0 : ((k0 ++ [O.lst ds0]).set k0.length (.lst (ds0 ++ [.tup [.str "rows", .tup []]]))) = k0 ++ [O.lst (ds0 ++ [.tup [.str "rows", .tup []]])] := by
    rw [List.set_append_right _ _ (Nat.le_refl _), Nat.sub_self, List.set_cons_zero]
  have hA : (k0 ++ [O.lst (ds0 ++ [.tup [.str "rows", .tup []]])])[k0.length]? = some (.lst (ds0 ++ [.tup [.str "rows", .tup []]])) := get_last
  have GA : Grow h (k0 ++ [O.lst (ds0 ++ [.tup [.str "rows", .tup []]])]) := gk0.trans (Grow.app ..)
  have lbA : LB (k0 ++ [O.lst (ds0 ++ [.tup [.str "rows", .tup []]])]) (ds0 ++ [.tup [.str "rows", .tup []]]) := (lk0.up (by simp)).app (lb_cons (.form rfl) (by simp only [alD, alDs, and_true]; decide) lb_nil)
  have nA : (ds0 ++ [D.tup [.str "rows", .tup []]]).length ≤ 30 := by simp; omega
  have nB : 1 ≤ (ds0 ++ [D.tup [.str "rows", .tup []]]).length := by simp
  have dr : sDrop (sML gApp (sV 2) (sCons (sA gTup (sCons (sC (.str "rows")) (sCons (sA gTup sNil) sNil))) sNil)) [some (.ref p), some pt, some (.ref k0.length), none] (k0 ++ [O.lst ds0]) = .nx [some (.ref p), some pt, some (.ref k0.length), none] (k0 ++ [O.lst (ds0 ++ [.tup [.str "rows", .tup []]])]) := by
    rw [← E0]
    exact t_drop (e_ml (e_v rfl) (by simp only [isL, get0]) (e_cons (e_a (e_cons e_c (e_cons (e_a e_nil rfl) e_nil)) rfl) e_nil) (app_ok get0 (by omega)))
  generalize ds0 ++ [D.tup [.str "rows", .tup []]] = xs0 at hA GA lbA nA nB dr E0
  generalize k0 ++ [O.lst xs0] = hA0 at hA GA lbA dr E0
  have LA := GA.len
  obtain ⟨ds1, k1, ek1, gk1, lk1, nk1⟩ : ∃ ds k, ((sCons (sA gTup (sCons (sC (.str "either")) (sCons (sA gTup sNil) sNil))) (sCons (sA gTup (sCons (sC (.str "either")) (sCons (sA gLst (sCons (sV 1) sNil)) sNil))) (sCons (sA gTup (sCons (sC (.str "either")) (sCons (s2 gMul2 (sA gTup (sCons (sV 1) sNil)) (sC (.int 7))) sNil))) (sCons (sA gTup (sCons (sC (.str "either")) (sCons (sV 1) sNil))) (sCons (sA gTup (sCons (sC (.str "either")) sNil)) sNil))))) : SA) [some (.ref p), some pt, some (.ref k0.length), none] hA0 = .ok ds k ∧ Grow hA0 k ∧ LB k ds ∧ ds.length ≤ 20 := ⟨_, _, (e_cons (e_a (e_cons e_c (e_cons (e_a e_nil rfl) e_nil)) rfl) (e_cons (e_a (e_cons e_c (e_cons (e_a (e_cons (e_v rfl) e_nil) rfl) e_nil)) rfl) (e_cons (e_a (e_cons e_c (e_cons (e_2 (e_a (e_cons (e_v rfl) e_nil) rfl) e_c (mul7 _)) e_nil)) rfl) (e_cons (e_a (e_cons e_c (e_cons (e_v rfl) e_nil)) rfl) (e_cons (e_a (e_cons e_c e_nil) rfl) e_nil))))), by first | exact Grow.refl _ | exact Grow.app _ _ | exact (Grow.app _ _).trans (Grow.app _ _) | exact ((Grow.app _ _).trans (Grow.app _ _)).trans (Grow.app _ _), (lb_cons (.form rfl) (by simp only [alD, alDs, and_true, true_and]; first | done | ((repeat' apply And.intro) <;> first | trivial | decide | (apply apt; simp only [List.length_append, List.length_cons, List.length_nil]; omega) | (apply apt; omega) | (simp only [List.length_append, List.length_cons, List.length_nil]; omega))) (lb_cons (.form rfl) (by simp only [alD, alDs, and_true, true_and]; first | done | ((repeat' apply And.intro) <;> first | trivial | decide | (apply apt; simp only [List.length_append, List.length_cons, List.length_nil]; omega) | (apply apt; omega) | (simp only [List.length_append, List.length_cons, List.length_nil]; omega))) (lb_cons (.form rfl) (by simp only [alD, alDs, and_true, true_and]; first | done | ((repeat' apply And.intro) <;> first | trivial | decide | (apply apt; simp only [List.length_append, List.length_cons, List.length_nil]; omega) | (apply apt; omega) | (simp only [List.length_append, List.length_cons, List.length_nil]; omega))) (lb_cons (bp _ (.inr rfl)) (by simp only [alD, alDs, and_true, true_and]; first | done | ((repeat' apply And.intro) <;> first | trivial | decide | (apply apt; simp only [List.length_append, List.length_cons, List.length_nil]; omega) | (apply apt; omega) | (simp only [List.length_append, List.length_cons, List.length_nil]; omega))) (lb_cons (.form rfl) (by simp only [alD, alDs, and_true, true_and]; first | done | ((repeat' apply And.intro) <;> first | trivial | decide | (apply apt; simp only [List.length_append, List.length_cons, List.length_nil]; omega) | (apply apt; omega) | (simp only [List.length_append, List.length_cons, List.length_nil]; omega))) lb_nil))))), by simp⟩
  obtain ⟨a1, h1, e1, g1, ha1, la1⟩ := t_more (i := 2) rfl hA ek1 gk1 (by first | omega | (simp only [List.length_append]; omega))
  have L1 : h.length ≤ h1.length := by have := (gk1.trans g1).len; omega
  obtain ⟨ds2, k2, ek2, gk2, lk2, nk2⟩ : ∃ ds k, ((sCons (sA gTup (sCons (sC (.str "either")) (sCons (sA gTup (sCons (sV 1) sNil)) (sCons (sC (.int 1)) sNil)))) (sCons (sA gTup (sCons (sC (.str "many")) sNil)) (sCons (sA gTup (sCons (sC (.str "many")) (sCons (sV 1) (sCons (sV 1) sNil)))) (sCons (sA gTup (sCons (sC (.str "many")) (sCons (sA gTup (sCons (sV 1) sNil)) sNil))) (sCons (sA gTup (sCons (sC (.str "many")) (sCons (sA gLst (sCons (sV 1) sNil)) sNil))) sNil))))) : SA) [some (.ref p), some pt, some (.ref a1), none] h1 = .ok ds k ∧ Grow h1 k ∧ LB k ds ∧ ds.length ≤ 20 := ⟨_, _, (e_cons (e_a (e_cons e_c (e_cons (e_a (e_cons (e_v rfl) e_nil) rfl) (e_cons e_c e_nil))) rfl) (e_cons (e_a (e_cons e_c e_nil) rfl) (e_cons (e_a (e_cons e_c (e_cons (e_v rfl) (e_cons (e_v rfl) e_nil))) rfl) (e_cons (e_a (e_cons e_c (e_cons (e_a (e_cons (e_v rfl) e_nil) rfl) e_nil)) rfl) (e_cons (e_a (e_cons e_c (e_cons (e_a (e_cons (e_v rfl) e_nil) rfl) e_nil)) rfl) e_nil))))), by first | exact Grow.refl _ | exact Grow.app _ _ | exact (Grow.app _ _).trans (Grow.app _ _) | exact ((Grow.app _ _).trans (Grow.app _ _)).trans (Grow.app _ _), (lb_cons (.form rfl) (by simp only [alD, alDs, and_true, true_and]; first | done | ((repeat' apply And.intro) <;> first | trivial | decide | (apply apt; simp only [List.length_append, List.length_cons, List.length_nil]; omega) | (apply apt; omega) | (simp only [List.length_append, List.length_cons, List.length_nil]; omega))) (lb_cons (.form rfl) (by simp only [alD, alDs, and_true, true_and]; first | done | ((repeat' apply And.intro) <;> first | trivial | decide | (apply apt; simp only [List.length_append, List.length_cons, List.length_nil]; omega) | (apply apt; omega) | (simp only [List.length_append, List.length_cons, List.length_nil]; omega))) (lb_cons (.form rfl) (by simp only [alD, alDs, and_true, true_and]; first | done | ((repeat' apply And.intro) <;> first | trivial | decide | (apply apt; simp only [List.length_append, List.length_cons, List.length_nil]; omega) | (apply apt; omega) | (simp only [List.length_append, List.length_cons, List.length_nil]; omega))) (lb_cons (bad_many b1) (by simp only [alD, alDs, and_true, true_and]; first | done | ((repeat' apply And.intro) <;> first | trivial | decide | (apply apt; simp only [List.length_append, List.length_cons, List.length_nil]; omega) | (apply apt; omega) | (simp only [List.length_append, List.length_cons, List.length_nil]; omega))) (lb_cons (bad_many (.form rfl)) (by simp only [alD, alDs, and_true, true_and]; first | done | ((repeat' apply And.intro) <;> first | trivial | decide | (apply apt; simp only [List.length_append, List.length_cons, List.length_nil]; omega) | (apply apt; omega) | (simp only [List.length_append, List.length_cons, List.length_nil]; omega))) lb_nil))))), by simp⟩
  obtain ⟨a2, h2, e2, g2, ha2, la2⟩ := t_more (i := 2) rfl ha1 ek2 gk2 (by first | omega | (simp only [List.length_append]; omega))
  have L2 : h.length ≤ h2.length := by have := (gk2.trans g2).len; omega
  obtain ⟨ds3, k3, ek3, gk3, lk3, nk3⟩ : ∃ ds k, ((sCons (sA gTup (sCons (sC (.str "many")) (sCons (sC .non) sNil))) (sCons (sA gTup (sCons (sC (.str "Many")) (sCons (sV 1) sNil))) (sCons (sA gTup (sCons (sC (.str "times")) (sCons (sV 1) sNil))) (sCons (sA gTup (sCons (sC (.str "times")) (sCons (sV 1) (sCons (sC (.int 1)) sNil)))) (sCons (sA gTup (sCons (sC (.str "times")) (sCons (sV 1) (sCons (sC (.int 1)) (sCons (sC (.int 2)) (sCons (sC (.int 3)) sNil)))))) sNil))))) : SA) [some (.ref p), some pt, some (.ref a2), none] h2 = .ok ds k ∧ Grow h2 k ∧ LB k ds ∧ ds.length ≤ 20 := ⟨_, _, (e_cons (e_a (e_cons e_c (e_cons e_c e_nil)) rfl) (e_cons (e_a (e_cons e_c (e_cons (e_v rfl) e_nil)) rfl) (e_cons (e_a (e_cons e_c (e_cons (e_v rfl) e_nil)) rfl) (e_cons (e_a (e_cons e_c (e_cons (e_v rfl) (e_cons e_c e_nil))) rfl) (e_cons (e_a (e_cons e_c (e_cons (e_v rfl) (e_cons e_c (e_cons e_c (e_cons e_c e_nil))))) rfl) e_nil))))), by first | exact Grow.refl _ | exact Grow.app _ _ | exact (Grow.app _ _).trans (Grow.app _ _) | exact ((Grow.app _ _).trans (Grow.app _ _)).trans (Grow.app _ _), (lb_cons (bad_many (.form rfl)) (by simp only [alD, alDs, and_true, true_and]; first | done | ((repeat' apply And.intro) <;> first | trivial | decide | (apply apt; simp only [List.length_append, List.length_cons, List.length_nil]; omega) | (apply apt; omega) | (simp only [List.length_append, List.length_cons, List.length_nil]; omega))) (lb_cons (.form rfl) (by simp only [alD, alDs, and_true, true_and]; first | done | ((repeat' apply And.intro) <;> first | trivial | decide | (apply apt; simp only [List.length_append, List.length_cons, List.length_nil]; omega) | (apply apt; omega) | (simp only [List.length_append, List.length_cons, List.length_nil]; omega))) (lb_cons (.form rfl) (by simp only [alD, alDs, and_true, true_and]; first | done | ((repeat' apply And.intro) <;> first | trivial | decide | (apply apt; simp only [List.length_append, List.length_cons, List.length_nil]; omega) | (apply apt; omega) | (simp only [List.length_append, List.length_cons, List.length_nil]; omega))) (lb_cons (.form rfl) (by simp only [alD, alDs, and_true, true_and]; first | done | ((repeat' apply And.intro) <;> first | trivial | decide | (apply apt; simp only [List.length_append, List.length_cons, List.length_nil]; omega) | (apply apt; omega) | (simp only [List.length_append, List.length_cons, List.length_nil]; omega))) (lb_cons (.form rfl) (by simp only [alD, alDs, and_true, true_and]; first | done | ((repeat' apply And.intro) <;> first | trivial | decide | (apply apt; simp only [List.length_append, List.length_cons, List.length_nil]; omega) | (apply apt; omega) | (simp only [List.length_append, List.length_cons, List.length_nil]; omega))) lb_nil))))), by simp⟩
  obtain ⟨a3, h3, e3, g3, ha3, la3⟩ := t_more (i := 2) rfl ha2 ek3 gk3 (by first | omega | (simp only [List.length_append]; omega))
  have L3 : h.length ≤ h3.length := by have := (gk3.trans g3).len; omega
  have G3 := ((GA.trans (gk1.trans g1)).trans (gk2.trans g2)).trans (gk3.trans g3)
  obtain ⟨r, hT, eT, r0, r1, PT, KT⟩ := take_call (m := 4) (G3.pen P) (by omega) (by decide) (by decide)
  have LT : h.length ≤ hT.length := by have := KT.1; omega
  have hp3 : a3 ≠ p := by have := Pen.lt P; have := (((GA.trans (gk1.trans g1)).trans (gk2.trans g2)).trans gk3).len; omega
  have haT := KT.get ha3 hp3
  generalize hlow : 1 + r = low
  have lw0 : 1 ≤ low ∧ low ≤ 4 := by omega
  have t1 : timesB (.int low) (.int (low - 1)) = false := by
    simp only [timesB, nfB, nfD]; rw [decide_eq_false (show ¬ low ≤ low - 1 by omega)]; simp
  have t2 : timesB (.int (-low)) (.int low) = false := by
    simp only [timesB, nfB, nfD]; rw [decide_eq_false (show ¬ 0 ≤ -low by omega)]; simp
  have t3 : timesB (.int 0) (.int (4 + low)) = false := by
    simp only [timesB, nfB, nfD]; rw [decide_eq_false (show ¬ 4 + low ≤ 4 by omega)]; simp
  have t4 : timesB (.int 1) pt = false := by simp only [timesB, tB, Bool.false_and]
  obtain ⟨ds4, k4, ek4, gk4, lk4, nk4⟩ : ∃ ds k, ((sCons (sA gTup (sCons (sC (.str "times")) (sCons (sV 1) (sCons (sV 3) (sCons (s2 gSub (sV 3) (sC (.int 1))) sNil))))) (sCons (sA gTup (sCons (sC (.str "times")) (sCons (sV 1) (sCons (s1 gNeg (sV 3)) (sCons (sV 3) sNil))))) (sCons (sA gTup (sCons (sC (.str "times")) (sCons (sV 1) (sCons (sV 3) (sCons (sC (.int 5)) sNil))))) sNil))) : SA) [some (.ref p), some pt, some (.ref a3), some (.int low)] hT = .ok ds k ∧ Grow hT k ∧ LB k ds ∧ ds.length ≤ 20 := ⟨_, _, (e_cons (e_a (e_cons e_c (e_cons (e_v rfl) (e_cons (e_v rfl) (e_cons (e_2 (e_v rfl) e_c rfl) e_nil)))) rfl) (e_cons (e_a (e_cons e_c (e_cons (e_v rfl) (e_cons (e_1 (e_v rfl) rfl) (e_cons (e_v rfl) e_nil)))) rfl) (e_cons (e_a (e_cons e_c (e_cons (e_v rfl) (e_cons (e_v rfl) (e_cons e_c e_nil)))) rfl) e_nil))), by first | exact Grow.refl _ | exact Grow.app _ _ | exact (Grow.app _ _).trans (Grow.app _ _) | exact ((Grow.app _ _).trans (Grow.app _ _)).trans (Grow.app _ _), (lb_cons (.form t1) (by simp only [alD, alDs, and_true, true_and]; first | done | ((repeat' apply And.intro) <;> first | trivial | decide | (apply apt; simp only [List.length_append, List.length_cons, List.length_nil]; omega) | (apply apt; omega) | (simp only [List.length_append, List.length_cons, List.length_nil]; omega))) (lb_cons (.form t2) (by simp only [alD, alDs, and_true, true_and]; first | done | ((repeat' apply And.intro) <;> first | trivial | decide | (apply apt; simp only [List.length_append, List.length_cons, List.length_nil]; omega) | (apply apt; omega) | (simp only [List.length_append, List.length_cons, List.length_nil]; omega))) (lb_cons (.form rfl) (by simp only [alD, alDs, and_true, true_and]; first | done | ((repeat' apply And.intro) <;> first | trivial | decide | (apply apt; simp only [List.length_append, List.length_cons, List.length_nil]; omega) | (apply apt; omega) | (simp only [List.length_append, List.length_cons, List.length_nil]; omega))) lb_nil))), by simp⟩
  obtain ⟨a4, h4, e4, g4, ha4, la4⟩ := t_more (i := 2) rfl haT ek4 gk4 (by first | omega | (simp only [List.length_append]; omega))
  have L4 : h.length ≤ h4.length := by have := (gk4.trans g4).len; omega
  obtain ⟨ds5, k5, ek5, gk5, lk5, nk5⟩ : ∃ ds k, ((sCons (sA gTup (sCons (sC (.str "times")) (sCons (sV 1) (sCons (sC (.int 0)) (sCons (s2 gAdd (sC (.int 4)) (sV 3)) sNil))))) (sCons (sA gTup (sCons (sC (.str "times")) (sCons (sV 1) (sCons (sC (.bl false)) (sCons (sV 3) sNil))))) (sCons (sA gTup (sCons (sC (.str "times")) (sCons (sV 1) (sCons (sC (.int 1)) (sCons (sC (.bl true)) sNil))))) sNil))) : SA) [some (.ref p), some pt, some (.ref a4), some (.int low)] h4 = .ok ds k ∧ Grow h4 k ∧ LB k ds ∧ ds.length ≤ 20 := ⟨_, _, (e_cons (e_a (e_cons e_c (e_cons (e_v rfl) (e_cons e_c (e_cons (e_2 e_c (e_v rfl) rfl) e_nil)))) rfl) (e_cons (e_a (e_cons e_c (e_cons (e_v rfl) (e_cons e_c (e_cons (e_v rfl) e_nil)))) rfl) (e_cons (e_a (e_cons e_c (e_cons (e_v rfl) (e_cons e_c (e_cons e_c e_nil)))) rfl) e_nil))), by first | exact Grow.refl _ | exact Grow.app _ _ | exact (Grow.app _ _).trans (Grow.app _ _) | exact ((Grow.app _ _).trans (Grow.app _ _)).trans (Grow.app _ _), (lb_cons (.form t3) (by simp only [alD, alDs, and_true, true_and]; first | done | ((repeat' apply And.intro) <;> first | trivial | decide | (apply apt; simp only [List.length_append, List.length_cons, List.length_nil]; omega) | (apply apt; omega) | (simp only [List.length_append, List.length_cons, List.length_nil]; omega))) (lb_cons (.form (Bool.and_false _)) (by simp only [alD, alDs, and_true, true_and]; first | done | ((repeat' apply And.intro) <;> first | trivial | decide | (apply apt; simp only [List.length_append, List.length_cons, List.length_nil]; omega) | (apply apt; omega) | (simp only [List.length_append, List.length_cons, List.length_nil]; omega))) (lb_cons (.form rfl) (by simp only [alD, alDs, and_true, true_and]; first | done | ((repeat' apply And.intro) <;> first | trivial | decide | (apply apt; simp only [List.length_append, List.length_cons, List.length_nil]; omega) | (apply apt; omega) | (simp only [List.length_append, List.length_cons, List.length_nil]; omega))) lb_nil))), by simp⟩
  obtain ⟨a5, h5, e5, g5, ha5, la5⟩ := t_more (i := 2) rfl ha4 ek5 gk5 (by first | omega | (simp only [List.length_append]; omega))
  have L5 : h.length ≤ h5.length := by have := (gk5.trans g5).len; omega
  obtain ⟨ds6, k6, ek6, gk6, lk6, nk6⟩ : ∃ ds k, ((sCons (sA gTup (sCons (sC (.str "times")) (sCons (sV 1) (sCons (sC .non) (sCons (sV 3) sNil))))) (sCons (sA gTup (sCons (sC (.str "times")) (sCons (sV 1) (sCons (sC (.int 0)) (sCons (sC (.str "1")) sNil))))) (sCons (sA gTup (sCons (sC (.str "times")) (sCons (sV 1) (sCons (sA gTup (sCons (sC (.int 0)) sNil)) (sCons (sV 3) sNil))))) sNil))) : SA) [some (.ref p), some pt, some (.ref a5), some (.int low)] h5 = .ok ds k ∧ Grow h5 k ∧ LB k ds ∧ ds.length ≤ 20 := ⟨_, _, (e_cons (e_a (e_cons e_c (e_cons (e_v rfl) (e_cons e_c (e_cons (e_v rfl) e_nil)))) rfl) (e_cons (e_a (e_cons e_c (e_cons (e_v rfl) (e_cons e_c (e_cons e_c e_nil)))) rfl) (e_cons (e_a (e_cons e_c (e_cons (e_v rfl) (e_cons (e_a (e_cons e_c e_nil) rfl) (e_cons (e_v rfl) e_nil)))) rfl) e_nil))), by first | exact Grow.refl _ | exact Grow.app _ _ | exact (Grow.app _ _).trans (Grow.app _ _) | exact ((Grow.app _ _).trans (Grow.app _ _)).trans (Grow.app _ _), (lb_cons (.form (Bool.and_false _)) (by simp only [alD, alDs, and_true, true_and]; first | done | ((repeat' apply And.intro) <;> first | trivial | decide | (apply apt; simp only [List.length_append, List.length_cons, List.length_nil]; omega) | (apply apt; omega) | (simp only [List.length_append, List.length_cons, List.length_nil]; omega))) (lb_cons (.form rfl) (by simp only [alD, alDs, and_true, true_and]; first | done | ((repeat' apply And.intro) <;> first | trivial | decide | (apply apt; simp only [List.length_append, List.length_cons, List.length_nil]; omega) | (apply apt; omega) | (simp only [List.length_append, List.length_cons, List.length_nil]; omega))) (lb_cons (.form (Bool.and_false _)) (by simp only [alD, alDs, and_true, true_and]; first | done | ((repeat' apply And.intro) <;> first | trivial | decide | (apply apt; simp only [List.length_append, List.length_cons, List.length_nil]; omega) | (apply apt; omega) | (simp only [List.length_append, List.length_cons, List.length_nil]; omega))) lb_nil))), by simp⟩
  obtain ⟨a6, h6, e6, g6, ha6, la6⟩ := t_more (i := 2) rfl ha5 ek6 gk6 (by first | omega | (simp only [List.length_append]; omega))
  have L6 : h.length ≤ h6.length := by have := (gk6.trans g6).len; omega
  obtain ⟨ds7, k7, ek7, gk7, lk7, nk7⟩ : ∃ ds k, ((sCons (sA gLst (sCons (sC (.str "times")) (sCons (sV 1) (sCons (sC (.int 0)) (sCons (sC (.int 1)) sNil))))) (sCons (sA gTup (sCons (sC (.str "times")) (sCons (sC (.int 0)) (sCons (sC (.int 1)) (sCons (sV 1) sNil))))) (sCons (sA gTup (sCons (sC (.str "times")) (sCons (sA gTup (sCons (sV 1) sNil)) (sCons (sC (.int 0)) (sCons (sC (.int 1)) sNil))))) (sCons (sA gTup (sCons (sC (.str "many")) (sCons (sA gTup (sCons (sC (.str "many")) sNil)) sNil))) sNil)))) : SA) [some (.ref p), some pt, some (.ref a6), some (.int low)] h6 = .ok ds k ∧ Grow h6 k ∧ LB k ds ∧ ds.length ≤ 20 := ⟨_, _, (e_cons (e_a (e_cons e_c (e_cons (e_v rfl) (e_cons e_c (e_cons e_c e_nil)))) rfl) (e_cons (e_a (e_cons e_c (e_cons e_c (e_cons e_c (e_cons (e_v rfl) e_nil)))) rfl) (e_cons (e_a (e_cons e_c (e_cons (e_a (e_cons (e_v rfl) e_nil) rfl) (e_cons e_c (e_cons e_c e_nil)))) rfl) (e_cons (e_a (e_cons e_c (e_cons (e_a (e_cons e_c e_nil) rfl) e_nil)) rfl) e_nil)))), by first | exact Grow.refl _ | exact Grow.app _ _ | exact (Grow.app _ _).trans (Grow.app _ _) | exact ((Grow.app _ _).trans (Grow.app _ _)).trans (Grow.app _ _), (lb_cons (.form rfl) (by simp only [alD, alDs, and_true, true_and]; first | done | ((repeat' apply And.intro) <;> first | trivial | decide | (apply apt; simp only [List.length_append, List.length_cons, List.length_nil]; omega) | (apply apt; omega) | (simp only [List.length_append, List.length_cons, List.length_nil]; omega))) (lb_cons (.form t4) (by simp only [alD, alDs, and_true, true_and]; first | done | ((repeat' apply And.intro) <;> first | trivial | decide | (apply apt; simp only [List.length_append, List.length_cons, List.length_nil]; omega) | (apply apt; omega) | (simp only [List.length_append, List.length_cons, List.length_nil]; omega))) (lb_cons (bad_times b1) (by simp only [alD, alDs, and_true, true_and]; first | done | ((repeat' apply And.intro) <;> first | trivial | decide | (apply apt; simp only [List.length_append, List.length_cons, List.length_nil]; omega) | (apply apt; omega) | (simp only [List.length_append, List.length_cons, List.length_nil]; omega))) (lb_cons (bad_many (.form rfl)) (by simp only [alD, alDs, and_true, true_and]; first | done | ((repeat' apply And.intro) <;> first | trivial | decide | (apply apt; simp only [List.length_append, List.length_cons, List.length_nil]; omega) | (apply apt; omega) | (simp only [List.length_append, List.length_cons, List.length_nil]; omega))) lb_nil)))), by simp⟩
  obtain ⟨a7, h7, e7, g7, ha7, la7⟩ := t_more (i := 2) rfl ha6 ek7 gk7 (by first | omega | (simp only [List.length_append]; omega))
  have L7 : h.length ≤ h7.length := by have := (gk7.trans g7).len; omega
  have G7 := (((gk4.trans g4).trans (gk5.trans g5)).trans (gk6.trans g6)).trans (gk7.trans g7)
  have KA : Keep p h h7 := ((G3.keep p).trans KT).trans (G7.keep p)
  have q1 := (gk1.trans g1).len
  have q2 := (gk2.trans g2).len
  have q3 := (gk3.trans g3).len
  have qT := KT.1
  have q4 := (gk4.trans g4).len
  have q5 := (gk5.trans g5).len
  have q6 := (gk6.trans g6).len
  have q7 := (gk7.trans g7).len
  have p1 := g1.len
  have p2 := g2.len
  have p3 := g3.len
  have p4 := g4.len
  have p5 := g5.len
  have p6 := g6.len
  have p7 := g7.len
  have w7 := gk7.len
  refine ⟨a7, h7, _, ?_, ha7, ?_, ?_, ?_, G7.pen (PT.up (by omega)), KA, by omega⟩
  · refine gc_keep ?_ (by omega) ?_
    · apply body_rt
      unfold b_law_odd_parts
      refine t_seq (t_set (e_a ek0 (r := .ok (.ref k0.length) (k0 ++ [.lst ds0])) (by simp only [MI.gLst]; rw [if_pos (by show _ ≤ 16777216; omega)]))) ?_
      refine t_seq dr ?_
      refine t_seq (t_set e1) (t_seq (t_set e2) (t_seq (t_set e3) ?_))
      refine t_seq (t_set2 (e_2 e_c (e_a (e_cons (e_v rfl) (e_cons e_c e_nil)) (e_call rfl eT)) (r := .ok (.int low) hT) (by rw [← hlow]; rfl)) rfl rfl) ?_
      exact t_seq (t_set e4) (t_seq (t_set e5) (t_seq (t_set e6) (t_ret e7)))
    · simp only [List.mem_cons, List.not_mem_nil, or_false]
      rintro (z | z)
      · injection z with z; have := Pen.lt P; omega
      · exact np _ z
  · simp only [List.length_append]
    omega
  · simp only [List.length_append]; omega
  · exact (((((((((lbA.up (by omega)).app (lk1.up (by omega))).app (lk2.up (by omega))).app (lk3.up (by omega))).app (lk4.up (by omega))).app (lk5.up (by omega))).app (lk6.up (by omega))).app (lk7.up (by omega))))
end Q4
set_option Elab.async false
set_option linter.all false
set_option maxRecDepth 100000
set_option maxHeartbeats 4000000
namespace Q4
open PySem PySem.Spec L2 MI PEN SHF
open SHP (Sh)
noncomputable def b_law_deep (F_law_take : SF) : SS :=
 (sSeq (sFor (sRg gRng1 (sCons (sV 2) sNil)) (kN 3) (sSeq (sSet 4 (s2 gMul (sA gLst (sCons (sA gTup (sCons (sC (.str "one")) (sCons (sC (.str "a")) sNil))) sNil)) (sA (sN 2 F_law_take) (sCons (sV 0) (sCons (sC (.int 4)) sNil)))))
 (sSeq (sSet 5 (sA (sN 2 F_law_take) (sCons (sV 0) (sCons (s2 gAdd (sA gLen (sCons (sV 4) sNil)) (sC (.int 1))) sNil))))
 (sSeq (sSet 6 (sA gTuple (sCons (s2 gAdd (s2 gAdd (sSl2 (sV 4) oN (oS (sV 5))) (sA gLst (sCons (sV 1) sNil))) (sSl2 (sV 4) (oS (sV 5)) oN)) sNil)))
 (sSeq (sSet 7 (sA (sN 2 F_law_take) (sCons (sV 0) (sCons (sC (.int 4)) sNil))))
 (sSet 1 (s2 gIx (sA gLst (sCons (sA gTup (sCons (sC (.str "many")) (sCons (sV 1) sNil))) (sCons (sA gTup (sCons (sC (.str "times")) (sCons (sV 1) (sCons (sC (.int 0)) (sCons (sV 7) sNil))))) (sCons (sA gTup (sCons (sC (.str "row")) (sCons (sV 6) sNil))) (sCons (sA gTup (sCons (sC (.str "either")) (sCons (sV 6) sNil))) sNil))))) (sV 7))))))))
 (sRet (sV 1)))
theorem gc_any {F : SF} {ds : List D} {h h1 : Hd} {d : D} {p N : Nat} (e : F ds h = .ok d h1) (P : Pen h1 p N) (K : SHF.Keep p h h1) (lp : p < h.length) : ∃ h', gcF F ds h = .ok d h' ∧ Pen h' p N ∧ SHF.Keep p h h' := by
  unfold gcF
  rw [e]
  dsimp only
  split
  · exact ⟨_, rfl, Pen.take P lp, by rw [List.length_take]; exact Nat.le_of_eq (Nat.min_eq_left K.1).symm, fun i hi ne => by rw [List.getElem?_take, if_pos hi]; exact K.2 i hi ne⟩
  · exact ⟨_, rfl, P, K⟩
theorem fine_up : ∀ {n : Nat} {sh : Sh}, Fine n sh → Fine (n + 1) sh
  | 0, _, f => by cases f
  | n + 1, sh, f => by
    cases f with
    | mk o k => exact .mk o fun p hp => fine_up (k p hp)
theorem fine_le {n m : Nat} {sh : Sh} (f : Fine n sh) (l : n ≤ m) : Fine m sh := by
  induction l with
  | refl => exact f
  | step _ ih => exact fine_up ih
def sA1 : Sh := .one "a"
theorem fine_a : Fine 1 sA1 := .mk rfl (by simp [sA1, kids])
theorem rep_list {h : Hd} {a : Nat} {x : D} {k : Nat} (e : h[a]? = some (.lst [x])) (l : k ≤ 100) : gMul (.ref a) (.int (k : Int)) h = .ok (.ref h.length) (h ++ [.lst (List.replicate k x)]) := by
  have fl : (List.replicate k [x]).flatten = List.replicate k x := by
    induction k with
    | zero => rfl
    | succ k ih => rw [List.replicate_succ, List.flatten_cons, ih (by omega), List.replicate_succ]; rfl
  simp only [gMul, e]
  rw [if_pos ⟨⟨by omega, by omega⟩, by show 1 * _ ≤ 16777216; rw [Int.toNat_natCast]; omega⟩, Int.toNat_natCast, fl]
theorem slL_to {h : Hd} {a : Nat} {xs : List D} (e : h[a]? = some (.lst xs)) (j : Nat) : gSl2 (.ref a) none (some (j : Int)) h = .ok (.ref h.length) (h ++ [.lst (xs.take j)]) := by
  show gSl (.ref a) none (some (j : Int)) h = _
  simp only [gSl, e, cutL_to]
theorem slL_from {h : Hd} {a : Nat} {xs : List D} (e : h[a]? = some (.lst xs)) (j : Nat) : gSl2 (.ref a) (some (j : Int)) none h = .ok (.ref h.length) (h ++ [.lst (xs.drop j)]) := by
  show gSl (.ref a) (some (j : Int)) none h = _
  simp only [gSl, e, cutL_from]
theorem ix_of {H : Hd} {a : Nat} {zs : List D} {i : Int} {d : D} (e : H[a]? = some (.lst zs)) (e2 : atI zs i = some d) : gIx (.ref a) (.int i) H = .ok d H := by simp only [gIx, seqD, e, e2]
theorem tup_of {H : Hd} {a : Nat} {zs : List D} (e : H[a]? = some (.lst zs)) : gTuple [.ref a] H = .ok (.tup zs) H := by simp only [gTuple, seqD, e]
theorem partsL_rep (j : Nat) : (partsL (List.replicate j sA1)).length = j := by
  induction j with
  | zero => rfl
  | succ j ih => rw [List.replicate_succ, partsL, List.length_append, ih]; simp [sA1, parts]; omega
theorem depL_app (xs ys : List Sh) : depL (xs ++ ys) = max (depL xs) (depL ys) := by
  induction xs with
  | nil => simp [depL]
  | cons x xs ih => rw [List.cons_append, depL, depL, ih, Nat.max_assoc]
theorem depL_rep (j : Nat) : depL (List.replicate j sA1) ≤ 1 := depL_le.mpr fun p hp => by rw [(List.mem_replicate.mp hp).2]; exact Nat.le_refl _
theorem dep_pos (sh : Sh) : 1 ≤ dep sh := by rw [dep_eq]; omega
noncomputable def F_law_deep : SF := gcF (bodyR (b_law_deep F_law_take) 8)
theorem deep_ok {h : Hd} {p N : Nat} {m : Nat} {sh : Sh} (n : Nat) (n5 : n ≤ 5) (P : Pen h p N) (hN : N ≤ 800000000000) (f : Fine m sh) :
    ∃ sh' h', F_law_deep [.ref p, toD sh, .int n] h = .ok (toD sh') h' ∧ Fine (m + n) sh' ∧ dep sh' = dep sh + n ∧ size sh' ≤ size sh + 4 * n ∧ Pen h' p (N + 10 * n) ∧ SHF.Keep p h h' := by
  have lo := forL_all (ck := fun _ => True) (g := kN 3) (b := (sSeq (sSet 4 (s2 gMul (sA gLst (sCons (sA gTup (sCons (sC (.str "one")) (sCons (sC (.str "a")) sNil))) sNil)) (sA (sN 2 F_law_take) (sCons (sV 0) (sCons (sC (.int 4)) sNil)))))
     (sSeq (sSet 5 (sA (sN 2 F_law_take) (sCons (sV 0) (sCons (s2 gAdd (sA gLen (sCons (sV 4) sNil)) (sC (.int 1))) sNil))))
     (sSeq (sSet 6 (sA gTuple (sCons (s2 gAdd (s2 gAdd (sSl2 (sV 4) oN (oS (sV 5))) (sA gLst (sCons (sV 1) sNil))) (sSl2 (sV 4) (oS (sV 5)) oN)) sNil)))
     (sSeq (sSet 7 (sA (sN 2 F_law_take) (sCons (sV 0) (sCons (sC (.int 4)) sNil))))
     (sSet 1 (s2 gIx (sA gLst (sCons (sA gTup (sCons (sC (.str "many")) (sCons (sV 1) sNil))) (sCons (sA gTup (sCons (sC (.str "times")) (sCons (sV 1) (sCons (sC (.int 0)) (sCons (sV 7) sNil))))) (sCons (sA gTup (sCons (sC (.str "row")) (sCons (sV 6) sNil))) (sCons (sA gTup (sCons (sC (.str "either")) (sCons (sV 6) sNil))) sNil))))) (sV 7)))))))) (rng 0 (n : Int).toNat)
    (fun pre τ h' => ∃ (s : Sh) (t3 t4 t5 t6 t7 : Option D), τ = [some (.ref p), some (toD s), some (.int n), t3, t4, t5, t6, t7] ∧ Fine (m + pre.length) s ∧ dep s = dep sh + pre.length ∧ size s ≤ size sh + 4 * pre.length ∧ Pen h' p (N + 10 * pre.length) ∧ SHF.Keep p h h') (fun _ _ _ _ => True.intro) ?_
    (rng 0 (n : Int).toNat) [] [some (.ref p), some (toD sh), some (.int n), none, none, none, none, none] h rfl ⟨sh, none, none, none, none, none, rfl, f, rfl, by simp, P, Keep.refl _ _⟩
  · obtain ⟨τ', h', e, s, t3, t4, t5, t6, t7, rfl, f', d', s', P', K'⟩ := lo
    have lr : (rng 0 (n : Int).toNat).length = n := by simp [rng]
    rw [lr] at f' d' s' P'
    obtain ⟨h2, e2, P2, K2⟩ := gc_any (F := bodyR (b_law_deep F_law_take) 8) (ds := [.ref p, toD sh, .int n]) (h := h) (d := toD s) (h1 := h') (by
      apply body_rt
      unfold b_law_deep
      exact t_seq (t_for (e_rg1 (e_cons (e_v rfl) e_nil) (by constructor <;> omega)) e) (t_ret (e_v rfl))) P' K' (Pen.lt P)
    exact ⟨s, h2, e2, f', d', s', P2, K2⟩
  · rintro pre x post τ h' all ⟨s, t3, t4, t5, t6, t7, rfl, f', d', s', P', K'⟩
    have la : pre.length < 5 := by
      have := congrArg List.length all
      simp [rng] at this; omega
    refine ⟨_, _, rfl, ?_⟩
    have PA : Pen (h' ++ [O.lst [toD sA1]]) p (N + 10 * pre.length) := Pen.app P'
    obtain ⟨r, h1, e1, r0, r1, P1, K1⟩ := take_call (m := 4) PA (by omega) (by decide) (by decide)
    obtain ⟨r, rfl⟩ := Int.eq_ofNat_of_zero_le r0
    have g1 : h1[h'.length]? = some (.lst [toD sA1]) := K1.get get_last (by have := Pen.lt P'; omega)
    have m1 := rep_list g1 (show r ≤ 100 by omega)
    have g2 : (h1 ++ [O.lst (List.replicate r (toD sA1))])[h1.length]? = some (.lst (List.replicate r (toD sA1))) := get_last
    have P2 : Pen (h1 ++ [O.lst (List.replicate r (toD sA1))]) p _ := Pen.app P1
    have n1 : h1.length ≠ p := by have := Pen.lt P1; omega
    have K2 : SHF.Keep p h' (h1 ++ [O.lst (List.replicate r (toD sA1))]) := ((Keep.app ..).trans K1).trans (Keep.app ..)
    generalize (h1 ++ [O.lst (List.replicate r (toD sA1))] : Hd) = h2 at m1 g2 P2 K2
    have gl : gLen [.ref h1.length] h2 = .ok (.int r) h2 := by simp only [gLen, seqD, g2, List.length_replicate]
    obtain ⟨j, h3, e3, j0, j1, P3, K3⟩ := take_call (m := (r : Int) + 1) P2 (by omega) (by omega) (by omega)
    obtain ⟨j, rfl⟩ := Int.eq_ofNat_of_zero_le j0
    have g3 := K3.get g2 n1
    have rw1 : ∃ h4, sA gTuple (sCons (s2 gAdd (s2 gAdd (sSl2 (sV 4) oN (oS (sV 5))) (sA gLst (sCons (sV 1) sNil))) (sSl2 (sV 4) (oS (sV 5)) oN)) sNil) [some (.ref p), some (toD s), some (.int n), some x, some (.ref h1.length), some (.int (j : Int)), t6, t7] h3 = .ok (.tup ((List.replicate j sA1 ++ [s] ++ List.replicate (r - j) sA1).map toD)) h4 ∧ Grow h3 h4 := by
      have c1 : (List.replicate r (toD sA1)).take j = (List.replicate j sA1).map toD := by rw [List.take_replicate, List.map_replicate, Nat.min_eq_left (by omega)]
      have c2 : (List.replicate r (toD sA1)).drop j = (List.replicate (r - j) sA1).map toD := by rw [List.drop_replicate, List.map_replicate]
      have s1 := slL_to g3 j
      rw [c1] at s1
      have q1 : (h3 ++ [O.lst ((List.replicate j sA1).map toD)] ++ [O.lst [toD s]])[h3.length]? = some (.lst ((List.replicate j sA1).map toD)) := get_left get_last
      have q2 : (h3 ++ [O.lst ((List.replicate j sA1).map toD)] ++ [O.lst [toD s]])[(h3 ++ [O.lst ((List.replicate j sA1).map toD)]).length]? = some (.lst [toD s]) := get_last
      have ad1 := add_lists q1 q2 (by show _ ≤ 16777216; simp; omega)
      have q3 : (h3 ++ [O.lst ((List.replicate j sA1).map toD)] ++ [O.lst [toD s]] ++ [O.lst ((List.replicate j sA1).map toD ++ [toD s])])[h1.length]? = some (.lst (List.replicate r (toD sA1))) := get_left (get_left (get_left g3))
      have s2 := slL_from q3 j
      rw [c2] at s2
      have q4 : (h3 ++ [O.lst ((List.replicate j sA1).map toD)] ++ [O.lst [toD s]] ++ [O.lst ((List.replicate j sA1).map toD ++ [toD s])])[(h3 ++ [O.lst ((List.replicate j sA1).map toD)] ++ [O.lst [toD s]]).length]? = some (.lst ((List.replicate j sA1).map toD ++ [toD s])) := get_last
      have ad2 := add_lists (get_left q4) get_last (ys := (List.replicate (r - j) sA1).map toD) (by show _ ≤ 16777216; simp; omega)
      have em : (List.replicate j sA1 ++ [s] ++ List.replicate (r - j) sA1).map toD = (List.replicate j sA1).map toD ++ [toD s] ++ (List.replicate (r - j) sA1).map toD := by simp
      rw [em]
      exact ⟨_, e_a (e_cons (e_2 (e_2 (e_sl (e_v rfl) e_oN (e_oS (e_v rfl)) s1) (e_a (e_cons (e_v rfl) e_nil) rfl) ad1) (e_sl (e_v rfl) (e_oS (e_v rfl)) e_oN s2) ad2) e_nil) (tup_of get_last), (((((Grow.app ..).trans (Grow.app ..)).trans (Grow.app ..)).trans (Grow.app ..)).trans (Grow.app ..))⟩
    obtain ⟨h4, e4, G4⟩ := rw1
    have P4 := G4.pen P3
    obtain ⟨w, h5, e5, w0, w1, P5, K5⟩ := take_call (m := 4) P4 (by omega) (by decide) (by decide)
    have fin : ∃ s' h6, s2 gIx (sA gLst (sCons (sA gTup (sCons (sC (.str "many")) (sCons (sV 1) sNil))) (sCons (sA gTup (sCons (sC (.str "times")) (sCons (sV 1) (sCons (sC (.int 0)) (sCons (sV 7) sNil))))) (sCons (sA gTup (sCons (sC (.str "row")) (sCons (sV 6) sNil))) (sCons (sA gTup (sCons (sC (.str "either")) (sCons (sV 6) sNil))) sNil))))) (sV 7) [some (.ref p), some (toD s), some (.int n), some x, some (.ref h1.length), some (.int (j : Int)), some (.tup ((List.replicate j sA1 ++ [s] ++ List.replicate (r - j) sA1).map toD)), some (.int w)] h5 = .ok (toD s') h6 ∧ Grow h5 h6 ∧ Fine (m + pre.length + 1) s' ∧ dep s' = dep s + 1 ∧ size s' ≤ size s + 4 := by
      have dp := dep_pos s
      have szr : ((partsL (List.replicate j sA1 ++ [s] ++ List.replicate (r - j) sA1)).length : Int) ≤ size s + 3 := by
        rw [partsL_app, partsL_app, List.length_append, List.length_append, partsL_rep, partsL_rep]
        simp only [partsL, List.append_nil, size]
        omega
      have dpr : depL (List.replicate j sA1 ++ [s] ++ List.replicate (r - j) sA1) = dep s := by
        rw [depL_app, depL_app]
        have := depL_rep j
        have := depL_rep (r - j)
        simp only [depL]
        omega
      have fr : ∀ q ∈ List.replicate j sA1 ++ [s] ++ List.replicate (r - j) sA1, Fine (m + pre.length) q := by
        intro q hq
        have l1 : 1 ≤ m + pre.length := by cases hm : m + pre.length with | zero => rw [hm] at f'; cases f' | succ _ => omega
        rcases List.mem_append.mp hq with hq | hq
        · rcases List.mem_append.mp hq with hq | hq
          · rw [(List.mem_replicate.mp hq).2]; exact fine_le fine_a l1
          · rw [List.mem_singleton.mp hq]; exact f'
        · rw [(List.mem_replicate.mp hq).2]; exact fine_le fine_a l1
      have lr : (List.replicate j sA1 ++ [s] ++ List.replicate (r - j) sA1).length = r + 1 := by simp; omega
      have sz : ∀ s' : Sh, size s' = 1 + ((partsL (kids s')).length : Int) := fun s' => by unfold size; rw [parts_eq, List.length_cons]; omega
      have : w = 0 ∨ w = 1 ∨ w = 2 ∨ w = 3 := by omega
      rcases this with rfl | rfl | rfl | rfl
      · refine ⟨.many s, _, e_2 (e_a (e_cons (e_a (e_cons e_c (e_cons (e_v rfl) e_nil)) rfl) (e_cons (e_a (e_cons e_c (e_cons (e_v rfl) (e_cons e_c (e_cons (e_v rfl) e_nil)))) rfl) (e_cons (e_a (e_cons e_c (e_cons (e_v rfl) e_nil)) rfl) (e_cons (e_a (e_cons e_c (e_cons (e_v rfl) e_nil)) rfl) e_nil)))) rfl) (e_v rfl) (ix_of get_last (by simp only [atI_0, toD] <;> rfl)), Grow.app .., .mk True.intro (by simp [kids, f']), by rw [dep_eq]; simp [kids, depL]; omega, by rw [sz]; simp only [kids, partsL, List.append_nil, size]; omega⟩
      · refine ⟨.times s 0 1, _, e_2 (e_a (e_cons (e_a (e_cons e_c (e_cons (e_v rfl) e_nil)) rfl) (e_cons (e_a (e_cons e_c (e_cons (e_v rfl) (e_cons e_c (e_cons (e_v rfl) e_nil)))) rfl) (e_cons (e_a (e_cons e_c (e_cons (e_v rfl) e_nil)) rfl) (e_cons (e_a (e_cons e_c (e_cons (e_v rfl) e_nil)) rfl) e_nil)))) rfl) (e_v rfl) (ix_of get_last (by simp only [atI_1, toD] <;> rfl)), Grow.app .., .mk ⟨by decide, by decide, by decide⟩ (by simp [kids, f']), by rw [dep_eq]; simp [kids, depL]; omega, by rw [sz]; simp only [kids, partsL, List.append_nil, size]; omega⟩
      · refine ⟨.row (List.replicate j sA1 ++ [s] ++ List.replicate (r - j) sA1), _, e_2 (e_a (e_cons (e_a (e_cons e_c (e_cons (e_v rfl) e_nil)) rfl) (e_cons (e_a (e_cons e_c (e_cons (e_v rfl) (e_cons e_c (e_cons (e_v rfl) e_nil)))) rfl) (e_cons (e_a (e_cons e_c (e_cons (e_v rfl) e_nil)) rfl) (e_cons (e_a (e_cons e_c (e_cons (e_v rfl) e_nil)) rfl) e_nil)))) rfl) (e_v rfl) (ix_of get_last (by simp only [atI_2, toD, toDs_map] <;> rfl)), Grow.app .., .mk (show _ ≤ 6 by rw [lr]; omega) fr, by rw [dep_eq]; simp only [kids, dpr]; omega, by rw [sz]; simp only [kids]; omega⟩
      · refine ⟨.either (List.replicate j sA1 ++ [s] ++ List.replicate (r - j) sA1), _, e_2 (e_a (e_cons (e_a (e_cons e_c (e_cons (e_v rfl) e_nil)) rfl) (e_cons (e_a (e_cons e_c (e_cons (e_v rfl) (e_cons e_c (e_cons (e_v rfl) e_nil)))) rfl) (e_cons (e_a (e_cons e_c (e_cons (e_v rfl) e_nil)) rfl) (e_cons (e_a (e_cons e_c (e_cons (e_v rfl) e_nil)) rfl) e_nil)))) rfl) (e_v rfl) (ix_of get_last (by simp only [atI_3, toD, toDs_map] <;> rfl)), Grow.app .., .mk ⟨by rw [lr]; omega, by rw [lr]; omega⟩ fr, by rw [dep_eq]; simp only [kids, dpr]; omega, by rw [sz]; simp only [kids]; omega⟩
    obtain ⟨s2, h6, e6, G6, f6, d6, z6⟩ := fin
    refine ⟨[some (.ref p), some (toD s2), some (.int n), some x, some (.ref h1.length), some (.int (j : Int)), some (.tup ((List.replicate j sA1 ++ [s] ++ List.replicate (r - j) sA1).map toD)), some (.int w)], h6, ?_, s2, _, _, _, _, _, rfl, by rw [List.length_append]; exact f6, by rw [List.length_append, d6, d']; rfl, by rw [List.length_append, List.length_singleton]; omega, by rw [List.length_append, List.length_singleton]; exact G6.pen (P5.up (by omega)), ((((K'.trans K2).trans K3).trans (G4.keep p)).trans K5).trans (G6.keep p)⟩
    refine t_seq (t_set (e_2 (e_a (e_cons (e_a (e_cons e_c (e_cons e_c e_nil)) rfl) e_nil) rfl) (e_a (e_cons (e_v rfl) (e_cons e_c e_nil)) (e_call rfl e1)) m1)) ?_
    refine t_seq (t_set (e_a (e_cons (e_v rfl) (e_cons (e_2 (e_a (e_cons (e_v rfl) e_nil) gl) e_c rfl) e_nil)) (e_call rfl e3))) ?_
    refine t_seq (t_set e4) ?_
    refine t_seq (t_set (e_a (e_cons (e_v rfl) (e_cons e_c e_nil)) (e_call rfl e5))) ?_
    exact t_set e6
end Q4
set_option Elab.async false
set_option linter.all false
set_option maxRecDepth 100000
set_option maxHeartbeats 4000000
namespace Q4
open PySem PySem.Spec L2 MI PEN SHF
open SHP (Sh)
noncomputable def b_law_counted (F_law_take : SF) : SS :=
 (sSeq (sSet 3 (sA gLst sNil))
 (sSeq (sWh (sT (s2 gGt (sV 2) (sC (.int 0)))) (sSeq (sSet 4 (sA (sN 2 F_law_take) (sCons (sV 0) (sCons (sC (.int 4)) sNil))))
 (sIf (sOr (sT (s2 gLt (sV 2) (sC (.int 2)))) (sT (s2 gLt (sV 4) (sC (.int 2)))))
  (sSeq (sDrop (sML gApp (sV 3) (sCons (sV 1) sNil)))
 (sSet 2 (s2 gSub (sV 2) (sC (.int 1)))))
  (sSeq (sDrop (sML gApp (sV 3) (sCons (s2 gIx (sA gLst (sCons (sA gTup (sCons (sC (.str "many")) (sCons (sV 1) sNil))) (sCons (sA gTup (sCons (sC (.str "times")) (sCons (sV 1) (sCons (sC (.int 1)) (sCons (sC (.int 3)) sNil))))) sNil))) (s2 gSub (sV 4) (sC (.int 2)))) sNil)))
 (sSet 2 (s2 gSub (sV 2) (sC (.int 2))))))) 100000)
 (sRet (sA gTuple (sCons (sV 3) sNil)))))
noncomputable def b_law_wide (F_law_counted : SF) (F_law_take : SF) : SS :=
 (sSeq (sSet 3 (sA gLst (sCons (sC (.str "row")) (sCons (sC (.str "either")) sNil))))
 (sSeq (sSet 4 (sA gLst sNil))
 (sSeq (sSet 5 (s2 gSub (sV 2) (sC (.int 1))))
 (sSeq (sFor (sRg gRng1 (sCons (sC (.int 4)) sNil)) (kN 6) (sSeq (sSet 7 (sA gMin2 (sCons (sC (.int 6)) (sCons (s2 gSub (sV 5) (s2 gMul (sC (.int 4)) (s2 gSub (sC (.int 3)) (sV 6)))) sNil))))
 (sSeq (sDrop (sML gApp (sV 4) (sCons (sA gTup (sCons (s2 gIx (sV 3) (sA (sN 2 F_law_take) (sCons (sV 0) (sCons (sC (.int 2)) sNil)))) (sCons (sA (sN 3 F_law_counted) (sCons (sV 0) (sCons (sV 1) (sCons (s2 gSub (sV 7) (sC (.int 1))) sNil)))) sNil))) sNil)))
 (sSet 5 (s2 gSub (sV 5) (sV 7))))))
 (sSeq (sSet 8 (sA (sN 2 F_law_take) (sCons (sV 0) (sCons (sC (.int 4)) sNil))))
 (sRet (sA gTup (sCons (s2 gIx (sV 3) (sA (sN 2 F_law_take) (sCons (sV 0) (sCons (sC (.int 2)) sNil)))) (sCons (sA gTuple (sCons (s2 gAdd (sSl2 (sV 4) (oS (sV 8)) oN) (sSl2 (sV 4) oN (oS (sV 8)))) sNil)) sNil)))))))))
theorem wh_step {c : ST} {f : SS} {n : Nat} {τ τ2 : Sd} {h h1 h2 : Hd} {q : Fl} (e1 : c τ h = .ok true h1) (e2 : f τ h1 = .nx τ2 h2) (e3 : sWh c f n τ2 h2 = q) : sWh c f (n + 1) τ h = q := by
  rw [sWh, e1]
  unfold R.fl
  dsimp only
  rw [if_pos rfl, e2]
  exact e3
theorem wh_end {c : ST} {f : SS} {n : Nat} {τ : Sd} {h h1 : Hd} (e1 : c τ h = .ok false h1) : sWh c f (n + 1) τ h = .nx τ h1 := by
  rw [sWh, e1]; rfl
theorem keep_set {h h' : Hd} {p L : Nat} {o : O} (K : SHF.Keep p h h') (l : h.length ≤ L) : SHF.Keep p h (h'.set L o) := ⟨by rw [List.length_set]; exact K.1, fun i hi ne => by rw [List.getElem?_set_ne (by omega)]; exact K.2 i hi ne⟩
noncomputable def F_law_counted : SF := gcF (bodyR (b_law_counted F_law_take) 5)
theorem counted_go {h : Hd} {p L : Nat} {T : Str} (u : unlB T = true) (hL : h.length ≤ L) (hp : p < h.length) : ∀ (s fuel : Nat), s < fuel → ∀ (ps : List Sh) (h' : Hd) (N : Nat) (t4 : Option D), h'[L]? = some (.lst (ps.map toD)) → (∀ q ∈ ps, Fine 2 q ∧ dep q ≤ 2) → ps.length + s ≤ 100 → Pen h' p N → N + s ≤ 900000000000 → SHF.Keep p h h' →
    ∃ ps' h'' t4', sWh (sT (s2 gGt (sV 2) (sC (.int 0)))) (sSeq (sSet 4 (sA (sN 2 F_law_take) (sCons (sV 0) (sCons (sC (.int 4)) sNil))))
 (sIf (sOr (sT (s2 gLt (sV 2) (sC (.int 2)))) (sT (s2 gLt (sV 4) (sC (.int 2)))))
  (sSeq (sDrop (sML gApp (sV 3) (sCons (sV 1) sNil)))
 (sSet 2 (s2 gSub (sV 2) (sC (.int 1)))))
  (sSeq (sDrop (sML gApp (sV 3) (sCons (s2 gIx (sA gLst (sCons (sA gTup (sCons (sC (.str "many")) (sCons (sV 1) sNil))) (sCons (sA gTup (sCons (sC (.str "times")) (sCons (sV 1) (sCons (sC (.int 1)) (sCons (sC (.int 3)) sNil))))) sNil))) (s2 gSub (sV 4) (sC (.int 2)))) sNil)))
 (sSet 2 (s2 gSub (sV 2) (sC (.int 2))))))) fuel [some (.ref p), some (toD (.one T)), some (.int s), some (.ref L), t4] h' = .nx [some (.ref p), some (toD (.one T)), some (.int 0), some (.ref L), t4'] h'' ∧
      h''[L]? = some (.lst (ps'.map toD)) ∧ (∀ q ∈ ps', Fine 2 q ∧ dep q ≤ 2) ∧ (partsL ps').length = (partsL ps).length + s ∧ ps'.length ≤ ps.length + s ∧ ps.length ≤ ps'.length ∧ (1 ≤ s → ps.length < ps'.length) ∧ Pen h'' p (N + s) ∧ SHF.Keep p h h'' := by
  have f1 : Fine 2 (.one T) ∧ dep (.one T) ≤ 2 := ⟨.mk u (by simp [kids]), by simp [dep]⟩
  have f2 : Fine 2 (.many (.one T)) ∧ dep (.many (.one T)) ≤ 2 := ⟨.mk True.intro (fun q hq => by rw [List.mem_singleton.mp hq]; exact .mk u (by simp [kids])), by simp [dep]⟩
  have f3 : Fine 2 (.times (.one T) 1 3) ∧ dep (.times (.one T) 1 3) ≤ 2 := ⟨.mk ⟨by decide, by decide, by decide⟩ (fun q hq => by rw [List.mem_singleton.mp hq]; exact .mk u (by simp [kids])), by simp [dep]⟩
  intro s
  induction s using Nat.strongRecOn with
  | ind s ih =>
    intro fuel hf ps h' N t4 eL fp lp P hN K
    obtain ⟨fuel, rfl⟩ : ∃ n, fuel = n + 1 := ⟨fuel - 1, by omega⟩
    by_cases s0 : s = 0
    · subst s0
      exact ⟨ps, h', t4, wh_end (e_T (e_2 (e_v rfl) e_c (gt_no (by decide)))), eL, fp, rfl, Nat.le_refl _, Nat.le_refl _, by omega, P, K⟩
    have c1 := fun h1 : Hd => gt_yes (h := h1) (show (0 : Int) < (s : Int) by omega)
    obtain ⟨r, h1, e1, r0, r1, P1, K1⟩ := take_call (m := 4) P (by omega) (by decide) (by decide)
    have nL : L ≠ p := by omega
    have eL1 := K1.get eL nL
    have lL : L < h1.length := (List.getElem?_eq_some_iff.mp eL1).1
    have il : ∀ {H : Hd} {xs : List D}, H[L]? = some (.lst xs) → isL (.ref L) H = true := fun e => by simp only [isL, e]
    by_cases one : s < 2 ∨ r < 2
    · obtain ⟨ps', h'', t4', e, q1, q2, q3, q4, q5, q6, q7, q8⟩ := ih (s - 1) (by omega) fuel (by omega) (ps ++ [.one T]) (h1.set L (.lst (ps.map toD ++ [toD (.one T)]))) (N + 1) (some (.int r)) (by rw [List.getElem?_set_self lL]; simp) (by
          intro q hq
          rcases List.mem_append.mp hq with hq | hq
          · exact fp q hq
          · rw [List.mem_singleton.mp hq]; exact f1) (by simp; omega) (Pen.setQ P1 (by omega)) (by omega) (keep_set (K.trans K1) hL)
      refine ⟨ps', h'', t4', wh_step (e_T (e_2 (e_v rfl) e_c (c1 _))) (t_seq (t_set (e_a (e_cons (e_v rfl) (e_cons e_c e_nil)) (e_call rfl e1))) (t_ifT (h1 := h1) ?_ (t_seq (t_drop (e_ml (e_v rfl) (il eL1) (e_cons (e_v rfl) e_nil) (app_ok eL1 (by simp; omega)))) (t_set (e_2 (e_v rfl) e_c rfl))))) ?_, q1, q2, ?_, by simp at q4; omega, by simp at q5; omega, by simp at q5; omega, q7.up (by omega), q8⟩
      · by_cases z : s < 2
        · exact e_orT (e_T (e_2 (e_v rfl) e_c (lt_yes (by omega))))
        · exact e_orF (e_T (e_2 (e_v rfl) e_c (lt_no (by omega)))) (e_T (e_2 (e_v rfl) e_c (lt_yes (by omega))))
      · have : ((s : Nat) : Int) - 1 = ((s - 1 : Nat) : Int) := by omega
        show sWh _ _ _ [some (.ref p), some (toD (.one T)), some (.int ((s : Int) - 1)), some (.ref L), some (.int r)] _ = _
        rw [this]
        exact e
      · rw [q3, partsL_app, List.length_append]; simp [partsL, parts]; omega
    ·
      have lit : ∃ q, (Fine 2 q ∧ dep q ≤ 2) ∧ (parts q).length = 2 ∧ s2 gIx (sA gLst (sCons (sA gTup (sCons (sC (.str "many")) (sCons (sV 1) sNil))) (sCons (sA gTup (sCons (sC (.str "times")) (sCons (sV 1) (sCons (sC (.int 1)) (sCons (sC (.int 3)) sNil))))) sNil))) (s2 gSub (sV 4) (sC (.int 2))) [some (.ref p), some (toD (.one T)), some (.int s), some (.ref L), some (.int r)] h1 = .ok (toD q) (h1 ++ [.lst [toD (.many (.one T)), toD (.times (.one T) 1 3)]]) := by
        have w1 : D.tup [.str "many", toD (.one T)] = toD (.many (.one T)) := by simp only [toD]
        have w2 : D.tup [.str "times", toD (.one T), .int 1, .int 3] = toD (.times (.one T) 1 3) := by simp only [toD]
        have : r = 2 ∨ r = 3 := by omega
        rcases this with rfl | rfl
        · exact ⟨.many (.one T), f2, by simp [parts], e_2 (e_a (e_cons (e_a (e_cons e_c (e_cons (e_v rfl) e_nil)) rfl) (e_cons (e_a (e_cons e_c (e_cons (e_v rfl) (e_cons e_c (e_cons e_c e_nil)))) rfl) e_nil)) (r := .ok (.ref h1.length) (h1 ++ [.lst [toD (.many (.one T)), toD (.times (.one T) 1 3)]])) (by rw [← w1, ← w2]; rfl)) (e_2 (e_v rfl) e_c rfl) (ix_of get_last (atI_0 _ _))⟩
        · exact ⟨.times (.one T) 1 3, f3, by simp [parts], e_2 (e_a (e_cons (e_a (e_cons e_c (e_cons (e_v rfl) e_nil)) rfl) (e_cons (e_a (e_cons e_c (e_cons (e_v rfl) (e_cons e_c (e_cons e_c e_nil)))) rfl) e_nil)) (r := .ok (.ref h1.length) (h1 ++ [.lst [toD (.many (.one T)), toD (.times (.one T) 1 3)]])) (by rw [← w1, ← w2]; rfl)) (e_2 (e_v rfl) e_c rfl) (ix_of get_last (atI_1 _ _ _))⟩
      obtain ⟨q, fq, pq, eq⟩ := lit
      have eL2 : (h1 ++ [O.lst [toD (.many (.one T)), toD (.times (.one T) 1 3)]])[L]? = some (.lst (ps.map toD)) := get_left eL1
      have P2 : Pen (h1 ++ [O.lst [toD (.many (.one T)), toD (.times (.one T) 1 3)]]) p (N + 1) := Pen.app P1
      have K2 : SHF.Keep p h (h1 ++ [O.lst [toD (.many (.one T)), toD (.times (.one T) 1 3)]]) := (K.trans K1).trans (Keep.app ..)
      generalize (h1 ++ [O.lst [toD (.many (.one T)), toD (.times (.one T) 1 3)]] : Hd) = h2 at eq eL2 P2 K2
      have lL2 : L < h2.length := (List.getElem?_eq_some_iff.mp eL2).1
      obtain ⟨ps', h'', t4', e, q1, q2, q3, q4, q5, q6, q7, q8⟩ := ih (s - 2) (by omega) fuel (by omega) (ps ++ [q]) (h2.set L (.lst (ps.map toD ++ [toD q]))) (N + 1) (some (.int r)) (by rw [List.getElem?_set_self lL2]; simp) (by
          intro x hx
          rcases List.mem_append.mp hx with hx | hx
          · exact fp x hx
          · rw [List.mem_singleton.mp hx]; exact fq) (by simp; omega) (Pen.setQ P2 (by omega)) (by omega) (keep_set K2 hL)
      refine ⟨ps', h'', t4', wh_step (e_T (e_2 (e_v rfl) e_c (c1 _))) (t_seq (t_set (e_a (e_cons (e_v rfl) (e_cons e_c e_nil)) (e_call rfl e1))) (t_ifF (e_orF (e_T (e_2 (e_v rfl) e_c (lt_no (by omega)))) (e_T (e_2 (e_v rfl) e_c (lt_no (by omega))))) (t_seq (t_drop (e_ml (e_v rfl) (il eL1) (e_cons eq e_nil) (app_ok eL2 (by simp; omega)))) (t_set (e_2 (e_v rfl) e_c rfl))))) ?_, q1, q2, ?_, by simp at q4; omega, by simp at q5; omega, by simp at q5; omega, q7.up (by omega), q8⟩
      · have : ((s : Nat) : Int) - 2 = ((s - 2 : Nat) : Int) := by omega
        show sWh _ _ _ [some (.ref p), some (toD (.one T)), some (.int ((s : Int) - 2)), some (.ref L), some (.int r)] _ = _
        rw [this]
        exact e
      · rw [q3, partsL_app, List.length_append]; simp [partsL, pq]; omega
theorem counted_ok {h : Hd} {p N : Nat} {T : Str} (s : Nat) (s9 : s ≤ 9) (P : Pen h p N) (hN : N ≤ 800000000000) (u : unlB T = true) :
    ∃ ps h', F_law_counted [.ref p, toD (.one T), .int s] h = .ok (.tup (ps.map toD)) h' ∧ (∀ q ∈ ps, Fine 2 q ∧ dep q ≤ 2) ∧ (partsL ps).length = s ∧ ps.length ≤ s ∧ (1 ≤ s → 1 ≤ ps.length) ∧ Pen h' p (N + s) ∧ SHF.Keep p h h' := by
  obtain ⟨ps, h1, t4, e, q1, q2, q3, q4, q5, q6, q7, q8⟩ := counted_go (h := h) (p := p) (L := h.length) u (Nat.le_refl _) (Pen.lt P) s 100000 (by omega) [] (h ++ [.lst []]) N none get_last (by simp) (by simp; omega) (Pen.app P) (by omega) (Keep.app ..)
  obtain ⟨h', e', P', K'⟩ := gc_any (F := bodyR (b_law_counted F_law_take) 5) (ds := [.ref p, toD (.one T), .int s]) (h := h) (d := .tup (ps.map toD)) (h1 := h1) (by
    apply body_rt
    unfold b_law_counted
    exact t_seq (t_set (e_a e_nil rfl)) (t_seq e (t_ret (e_a (e_cons (e_v rfl) e_nil) (tup_of q1))))) q7 q8 (Pen.lt P)
  exact ⟨ps, h', e', q2, by simpa [partsL] using q3, by simpa using q4, fun z => by have := q6 z; simp at this; omega, P', K'⟩
end Q4
set_option Elab.async false
set_option linter.all false
set_option maxRecDepth 100000
set_option maxHeartbeats 4000000
namespace Q4
open PySem PySem.Spec L2 MI PEN SHF
open SHP (Sh)
noncomputable def F_law_wide : SF := gcF (bodyR (b_law_wide F_law_counted F_law_take) 9)
theorem rng_at {n : Nat} {pre post : List D} {x : D} (all : rng 0 n = pre ++ x :: post) : pre.length < n ∧ x = D.int (pre.length : Nat) := by
  have l1 := congrArg List.length all
  have l2 := congrArg (fun l => l[pre.length]?) all
  simp only [rng, List.length_map, List.length_range, List.length_append, List.length_cons] at l1
  have hp : pre.length < n := by omega
  simp only [rng, List.getElem?_map, List.getElem?_range hp, Option.map_some, List.getElem?_append_right (Nat.le_refl _), Nat.sub_self, List.getElem?_cons_zero, Option.some.injEq] at l2
  exact ⟨hp, by rw [← l2]; simp⟩
theorem word_at2 {H : Hd} {W : Nat} {r : Int} (e : H[W]? = some (.lst [.str "row", .str "either"])) (r0 : 0 ≤ r) (r1 : r < 2) : ∃ b : Bool, gIx (.ref W) (.int r) H = .ok (.str (if b then "either" else "row")) H := by
  have : r = 0 ∨ r = 1 := by omega
  rcases this with rfl | rfl
  · exact ⟨false, ix_of e (atI_0 _ _)⟩
  · exact ⟨true, ix_of e (atI_1 _ _ _)⟩
def rowOr (b : Bool) (ps : List Sh) : Sh := if b then .either ps else .row ps
theorem rowOr_D (b : Bool) (ps : List Sh) : toD (rowOr b ps) = .tup [.str (if b then "either" else "row"), .tup (ps.map toD)] := by
  cases b <;> simp [rowOr, toD, toDs_map]
theorem rowOr_kids (b : Bool) (ps : List Sh) : kids (rowOr b ps) = ps := by cases b <;> rfl
theorem rowOr_fine {n : Nat} {b : Bool} {ps : List Sh} (l1 : 1 ≤ ps.length) (l6 : ps.length ≤ 6) (f : ∀ q ∈ ps, Fine n q) : Fine (n + 1) (rowOr b ps) := by
  refine .mk ?_ (by rw [rowOr_kids]; exact f)
  cases b
  · exact l6
  · exact ⟨l1, l6⟩
theorem size_eq (s' : Sh) : size s' = 1 + ((partsL (kids s')).length : Int) := by unfold size; rw [parts_eq, List.length_cons]; omega
theorem wide_ok {h : Hd} {p N : Nat} {T : Str} (s : Nat) (s1 : 20 ≤ s) (s2' : s ≤ 25) (P : Pen h p N) (hN : N ≤ 700000000000) (u : unlB T = true) :
    ∃ sh h', F_law_wide [.ref p, toD (.one T), .int s] h = .ok (toD sh) h' ∧ Fine 4 sh ∧ dep sh ≤ 4 ∧ size sh = s ∧ Pen h' p (N + 100) ∧ SHF.Keep p h h' := by
  have pl := Pen.lt P
  have lo := forL_all (ck := fun _ => True) (g := kN 6) (b := (sSeq (sSet 7 (sA gMin2 (sCons (sC (.int 6)) (sCons (s2 gSub (sV 5) (s2 gMul (sC (.int 4)) (s2 gSub (sC (.int 3)) (sV 6)))) sNil))))
     (sSeq (sDrop (sML gApp (sV 4) (sCons (sA gTup (sCons (s2 gIx (sV 3) (sA (sN 2 F_law_take) (sCons (sV 0) (sCons (sC (.int 2)) sNil)))) (sCons (sA (sN 3 F_law_counted) (sCons (sV 0) (sCons (sV 1) (sCons (s2 gSub (sV 7) (sC (.int 1))) sNil)))) sNil))) sNil)))
     (sSet 5 (s2 gSub (sV 5) (sV 7)))))) (rng 0 (4 : Int).toNat)
    (fun pre τ h' => ∃ (shs : List Sh) (left : Int) (t6 t7 : Option D), τ = [some (.ref p), some (toD (.one T)), some (.int s), some (.ref h.length), some (.ref (h.length + 1)), some (.int left), t6, t7, none] ∧ h'[h.length]? = some (.lst [.str "row", .str "either"]) ∧ h'[h.length + 1]? = some (.lst (shs.map toD)) ∧
      shs.length = pre.length ∧ (∀ q ∈ shs, Fine 3 q ∧ dep q ≤ 3) ∧ ((partsL shs).length : Int) + left = s - 1 ∧ 4 * (4 - (pre.length : Int)) ≤ left ∧ left ≤ 6 * (4 - (pre.length : Int)) ∧ Pen h' p (N + 20 * pre.length) ∧ SHF.Keep p h h') (fun _ _ _ _ => True.intro) ?_
    (rng 0 (4 : Int).toNat) [] [some (.ref p), some (toD (.one T)), some (.int s), some (.ref h.length), some (.ref (h.length + 1)), some (.int ((s : Int) - 1)), none, none, none] (h ++ [.lst [.str "row", .str "either"]] ++ [.lst []]) rfl
    ⟨[], (s : Int) - 1, none, none, rfl, get_left get_last, by simp, rfl, by simp, by simp [partsL], by simp; omega, by simp; omega, Pen.app (Pen.app P), (Keep.app ..).trans (Keep.app ..)⟩
  · obtain ⟨τ', h1, e, shs, left, t6, t7, rfl, eW, eS, ls, fs, ps, l0, l1, P1, K1⟩ := lo
    have lr : (rng 0 (4 : Int).toNat).length = 4 := by simp [rng]
    rw [lr] at ls l0 l1 P1
    have lz : left = 0 := by omega
    subst lz
    obtain ⟨j, h2, e2, j0, j1, P2, K2⟩ := take_call (m := 4) P1 (by omega) (by decide) (by decide)
    obtain ⟨j, rfl⟩ := Int.eq_ofNat_of_zero_le j0
    obtain ⟨r, h3, e3, r0, r1, P3, K3⟩ := take_call (m := 2) P2 (by omega) (by decide) (by decide)
    have eW3 := (K2.trans K3).get eW (by omega)
    have eS3 := (K2.trans K3).get eS (by omega)
    obtain ⟨b, eb⟩ := word_at2 eW3 r0 r1
    have q1 := slL_from eS3 j
    have q2 := slL_to (get_left (g := [O.lst ((shs.map toD).drop j)]) eS3) j
    have ad := add_lists (get_left (g := [O.lst ((shs.map toD).take j)]) (get_last (h := h3) (o := O.lst ((shs.map toD).drop j)))) get_last (by show _ ≤ 16777216; simp; omega)
    have em : (shs.map toD).drop j ++ (shs.map toD).take j = (shs.drop j ++ shs.take j).map toD := by simp
    rw [em] at ad
    have pe : (partsL (shs.drop j ++ shs.take j)).length = (partsL shs).length := by
      conv => rhs; rw [← List.take_append_drop j shs]
      rw [partsL_app, partsL_app, List.length_append, List.length_append]; omega
    have le : (shs.drop j ++ shs.take j).length = 4 := by simp; omega
    have fe : ∀ q ∈ shs.drop j ++ shs.take j, Fine 3 q ∧ dep q ≤ 3 := fun q hq => by
      rcases List.mem_append.mp hq with hq | hq
      · exact fs q (List.mem_of_mem_drop hq)
      · exact fs q (List.mem_of_mem_take hq)
    obtain ⟨h', e', P', K'⟩ := gc_any (F := bodyR (b_law_wide F_law_counted F_law_take) 9) (ds := [.ref p, toD (.one T), .int s]) (h := h) (d := toD (rowOr b (shs.drop j ++ shs.take j))) (p := p) (N := N + 100) (by
      apply body_rt
      unfold b_law_wide
      refine t_seq (t_set (e_a (e_cons e_c (e_cons e_c e_nil)) rfl)) ?_
      refine t_seq (t_set (e_a e_nil rfl)) ?_
      refine t_seq (t_set (e_2 (e_v rfl) e_c rfl)) ?_
      have e9 : sFor (sRg gRng1 (sCons (sC (.int 4)) sNil)) _ _ [some (.ref p), some (toD (.one T)), some (.int s), some (.ref h.length), some (.ref (h.length + 1)), some (.int ((s : Int) - 1)), none, none, none] (h ++ [.lst [.str "row", .str "either"]] ++ [.lst []]) = _ := t_for (e_rg1 (e_cons e_c e_nil) (by constructor <;> decide)) e
      refine t_seq (h1 := h1) (τ1 := [some (.ref p), some (toD (.one T)), some (.int s), some (.ref h.length), some (.ref (h.length + 1)), some (.int 0), t6, t7, none]) (by
        rw [show (h ++ [O.lst [.str "row", .str "either"]]).length = h.length + 1 by simp]
        exact e9) ?_
      refine t_seq (t_set (e_a (e_cons (e_v rfl) (e_cons e_c e_nil)) (e_call rfl e2))) ?_
      exact t_ret2 (e_a (e_cons (e_2 (e_v rfl) (e_a (e_cons (e_v rfl) (e_cons e_c e_nil)) (e_call rfl e3)) eb) (e_cons (e_a (e_cons (e_2 (e_sl (e_v rfl) (e_oS (e_v rfl)) e_oN q1) (e_sl (e_v rfl) e_oN (e_oS (e_v rfl)) q2) ad) e_nil) (tup_of get_last)) e_nil)) rfl) (rowOr_D _ _).symm rfl) (Pen.app (Pen.app (Pen.app (P3.up (by omega))))) (((((K1.trans K2).trans K3).trans (Keep.app ..)).trans (Keep.app ..)).trans (Keep.app ..)) pl
    refine ⟨_, h', e', rowOr_fine (by omega) (by omega) fun q hq => (fe q hq).1, ?_, ?_, P', K'⟩
    · rw [dep_eq, rowOr_kids]
      have := depL_le.mpr fun q hq => (fe q hq).2
      omega
    · rw [size_eq, rowOr_kids, pe]; omega
  · rintro pre x post τ h' all ⟨shs, left, t6, t7, rfl, eW, eS, ls, fs, ps, l0, l1, P1, K1⟩
    obtain ⟨lp, rfl⟩ := rng_at all
    have lp : pre.length < 4 := lp
    refine ⟨_, _, rfl, ?_⟩
    have cm : CMul 4 (3 - (pre.length : Int)) := .inl ⟨by decide, by decide⟩
    have gm : gMul (.int 4) (.int (3 - (pre.length : Int))) h' = .ok (.int (4 * (3 - (pre.length : Int)))) h' := by simp only [gMul, if_pos cm]
    have here : ∃ v : Nat, 4 ≤ v ∧ v ≤ 6 ∧ (if left - 4 * (3 - (pre.length : Int)) < 6 then left - 4 * (3 - (pre.length : Int)) else 6) = (v : Int) ∧ 4 * (3 - (pre.length : Int)) ≤ left - v ∧ left - v ≤ 6 * (3 - (pre.length : Int)) := by
      by_cases z : left - 4 * (3 - (pre.length : Int)) < 6
      · rw [if_pos z]
        exact ⟨(left - 4 * (3 - (pre.length : Int))).toNat, by omega, by omega, by omega, by omega, by omega⟩
      · rw [if_neg z]
        exact ⟨6, by omega, by omega, rfl, by omega, by omega⟩
    obtain ⟨v, v4, v6, ev, v1, v2⟩ := here
    obtain ⟨r, h2, e2, r0, r1, P2, K2⟩ := take_call (m := 2) P1 (by omega) (by decide) (by decide)
    obtain ⟨b, eb⟩ := word_at2 (K2.get eW (by omega)) r0 r1
    obtain ⟨qs, h3, e3, fq, pq, lq, gq, P3, K3⟩ := counted_ok (T := T) (v - 1) (by omega) P2 (by omega) u
    have eW3 := (K2.trans K3).get eW (by omega)
    have eS3 := (K2.trans K3).get eS (by omega)
    have lS : h.length + 1 < h3.length := (List.getElem?_eq_some_iff.mp eS3).1
    have ws : size (rowOr b qs) = v := by rw [size_eq, rowOr_kids, pq]; omega
    have s7 : sSet 7 (sA gMin2 (sCons (sC (.int 6)) (sCons (s2 gSub (sV 5) (s2 gMul (sC (.int 4)) (s2 gSub (sC (.int 3)) (sV 6)))) sNil))) [some (.ref p), some (toD (.one T)), some (.int s), some (.ref h.length), some (.ref (h.length + 1)), some (.int left), some (.int (pre.length : Nat)), t7, none] h' = .nx [some (.ref p), some (toD (.one T)), some (.int s), some (.ref h.length), some (.ref (h.length + 1)), some (.int left), some (.int (pre.length : Nat)), some (.int v), none] h' := by
      rw [← ev]
      exact t_set (e_a (e_cons e_c (e_cons (e_2 (e_v rfl) (e_2 e_c (e_2 e_c (e_v rfl) rfl) gm) rfl) e_nil)) rfl)
    have v' : ((v : Nat) : Int) - 1 = ((v - 1 : Nat) : Int) := by omega
    refine ⟨[some (.ref p), some (toD (.one T)), some (.int s), some (.ref h.length), some (.ref (h.length + 1)), some (.int (left - v)), some (.int (pre.length : Nat)), some (.int v), none], h3.set (h.length + 1) (.lst (shs.map toD ++ [toD (rowOr b qs)])), ?_, shs ++ [rowOr b qs], left - v, _, _, rfl, by rw [List.getElem?_set_ne (by omega)]; exact eW3, by rw [List.getElem?_set_self lS]; simp, by simp [ls], ?_, ?_, by simp; omega, by simp; omega, by rw [List.length_append, List.length_singleton]; exact Pen.setQ (P3.up (by omega)) (by omega), keep_set ((K1.trans K2).trans K3) (by omega)⟩
    · refine t_seq s7 (t_seq (t_drop (e_ml (e_v rfl) (by simp only [isL, eS]) (e_cons (e_a (e_cons (e_2 (e_v rfl) (e_a (e_cons (e_v rfl) (e_cons e_c e_nil)) (e_call rfl e2)) eb) (e_cons (e_a (e_cons (e_v rfl) (e_cons (e_v rfl) (e_cons (e_2 (e_v rfl) e_c rfl) e_nil))) (e_call rfl (by rw [v']; exact e3))) e_nil)) (r := .ok (toD (rowOr b qs)) h3) (by rw [rowOr_D]; rfl)) e_nil) (app_ok eS3 (by simp; omega)))) (t_set (e_2 (e_v rfl) (e_v rfl) rfl)))
    · intro q hq
      rcases List.mem_append.mp hq with hq | hq
      · exact fs q hq
      · rw [List.mem_singleton.mp hq]
        refine ⟨rowOr_fine (gq (by omega)) (by omega) fun x hx => (fq x hx).1, ?_⟩
        rw [dep_eq, rowOr_kids]
        have := depL_le.mpr fun x hx => (fq x hx).2
        omega
    · rw [partsL_app, List.length_append]
      simp only [partsL, List.append_nil]
      have : ((parts (rowOr b qs)).length : Int) = v := ws
      omega
end Q4
set_option Elab.async false
set_option linter.all false
set_option maxRecDepth 100000
set_option maxHeartbeats 4000000
namespace Q4
open PySem PySem.Spec L2 MI PEN SHF
open SHP (Sh)
noncomputable def b_law (F_law_deep : SF) (F_law_odd_ones : SF) (F_law_odd_parts : SF) (F_law_parts : SF) (F_law_pen : SF) (F_law_put : SF) (F_law_shape : SF) (F_law_signs : SF) (F_law_some : SF) (F_law_take : SF) (F_law_wide : SF) (F_is_shape : SF) : SS :=
 (sSeq (sSet 1 (sA (sN 1 F_law_pen) (sCons (sV 0) sNil)))
 (sSeq (sFor (sRg gRng1 (sCons (sC (.int 4)) sNil)) (kN 2) (sSeq (sSet 3 (sA (sN 2 F_law_take) (sCons (sV 1) (sCons (sC (.int 2)) sNil))))
 (sSeq (sSet 4 (sA (sN 4 F_law_shape) (sCons (sV 1) (sCons (sA gLst (sCons (sC (.int 23)) sNil)) (sCons (sC (.int 5)) (sCons (sA (sN 3 F_law_some) (sCons (sV 1) (sCons (sA (sN 0 F_law_signs) sNil) (sCons (sC (.int 6)) sNil)))) sNil))))))
 (sSeq (sSet 5 (s2 gIx (sA (sN 1 F_law_parts) (sCons (sV 4) sNil)) (s1 gNeg (sC (.int 1)))))
 (sSeq (sSet 6 (s2 gIx (sA gLst (sCons (sA (sN 1 F_law_odd_ones) (sCons (sV 1) sNil)) (sCons (sA (sN 2 F_law_odd_parts) (sCons (sV 1) (sCons (sV 5) sNil))) sNil))) (sV 3)))
 (sSeq (sSet 7 (sA (sN 2 F_law_take) (sCons (sV 1) (sCons (sA gLen (sCons (sA (sN 1 F_law_parts) (sCons (sV 4) sNil)) sNil)) sNil))))
 (sSeq (sSet 8 (sA (sN 3 F_law_put) (sCons (sV 4) (sCons (sV 7) (sCons (s2 gIx (sV 6) (sA (sN 2 F_law_take) (sCons (sV 1) (sCons (sA gLen (sCons (sV 6) sNil)) sNil)))) sNil)))))
 (sIf (sOr (sT (s2 gIsNot (sA (sN 1 F_is_shape) (sCons (sV 4) sNil)) (sC (.bl true)))) (sOr (sT (s2 gIsNot (sA (sN 1 F_is_shape) (sCons (sV 8) sNil)) (sC (.bl false)))) (sT (s2 gIsNot (sA (sN 1 F_is_shape) (sCons (sV 4) sNil)) (sC (.bl true))))))
  (sRet (sC (.bl false)))
  sNx))))))))
 (sSeq (sSet 9 (sA gTup (sCons (sC (.str "one")) (sCons (sA (sN 3 F_law_some) (sCons (sV 1) (sCons (sA (sN 0 F_law_signs) sNil) (sCons (sC (.int 6)) sNil)))) sNil))))
 (sSeq (sIf (sOr (sT (s2 gIsNot (sA (sN 1 F_is_shape) (sCons (sA (sN 3 F_law_deep) (sCons (sV 1) (sCons (sV 9) (sCons (sC (.int 4)) sNil)))) sNil)) (sC (.bl true)))) (sT (s2 gIsNot (sA (sN 1 F_is_shape) (sCons (sA (sN 3 F_law_deep) (sCons (sV 1) (sCons (sV 9) (sCons (sC (.int 5)) sNil)))) sNil)) (sC (.bl false)))))
  (sRet (sC (.bl false)))
  sNx)
 (sSeq (sIf (sOr (sT (s2 gIsNot (sA (sN 1 F_is_shape) (sCons (sA (sN 3 F_law_deep) (sCons (sV 1) (sCons (sA gTup (sCons (sC (.str "row")) (sCons (sA gTup sNil) sNil))) (sCons (sC (.int 4)) sNil)))) sNil)) (sC (.bl true)))) (sT (s2 gIsNot (sA (sN 1 F_is_shape) (sCons (sA (sN 3 F_law_deep) (sCons (sV 1) (sCons (sA gTup (sCons (sC (.str "row")) (sCons (sA gTup sNil) sNil))) (sCons (sC (.int 5)) sNil)))) sNil)) (sC (.bl false)))))
  (sRet (sC (.bl false)))
  sNx)
 (sSeq (sSet 10 (s2 gAdd (sC (.int 20)) (sA (sN 2 F_law_take) (sCons (sV 1) (sCons (sC (.int 5)) sNil)))))
 (sSeq (sIf (sOr (sT (s2 gIsNot (sA (sN 1 F_is_shape) (sCons (sA (sN 3 F_law_wide) (sCons (sV 1) (sCons (sV 9) (sCons (sV 10) sNil)))) sNil)) (sC (.bl true)))) (sT (s2 gIsNot (sA (sN 1 F_is_shape) (sCons (sA (sN 3 F_law_wide) (sCons (sV 1) (sCons (sV 9) (sCons (sC (.int 24)) sNil)))) sNil)) (sC (.bl true)))))
  (sRet (sC (.bl false)))
  sNx)
 (sRet (sAndV (s2 gIs (sA (sN 1 F_is_shape) (sCons (sA (sN 3 F_law_wide) (sCons (sV 1) (sCons (sV 9) (sCons (sC (.int 25)) sNil)))) sNil)) (sC (.bl false))) (s2 gIs (sA (sN 1 F_is_shape) (sCons (sV 9) sNil)) (sC (.bl true))))))))))))
def SG : Str := PEN.s1 ++ s2'
theorem sg_nodup : SG.cps.toList.Nodup := by decide +kernel
theorem sg_signs : ∀ c ∈ SG.cps.toList, signB c = true := by decide +kernel
theorem sg_len : SG.length = 95 := signs_len
theorem fine_parts : ∀ {n : Nat} {sh : Sh}, Fine n sh → ∀ q ∈ parts sh, Fine n q
  | 0, _, f => by cases f
  | n + 1, sh, f => fun q hq => by
    cases f with
    | mk o k =>
      rw [parts_eq] at hq
      rcases List.mem_cons.mp hq with rfl | hq
      · exact .mk o k
      · have : ∀ ps : List Sh, (∀ p ∈ ps, Fine n p) → q ∈ partsL ps → Fine (n + 1) q := by
          intro ps
          induction ps with
          | nil => intro _ h; simp [partsL] at h
          | cons p ps ih =>
            intro hp h
            rw [partsL] at h
            rcases List.mem_append.mp h with h | h
            · exact fine_up (fine_parts (hp p (List.mem_cons_self ..)) q h)
            · exact ih (fun r hr => hp r (List.mem_cons_of_mem _ hr)) h
        exact this _ k hq
theorem atI_last {xs : List D} (h : xs ≠ []) : ∃ d ∈ xs, atI xs (-1) = some d := by
  have l : 1 ≤ xs.length := List.length_pos_iff.mpr h
  refine ⟨xs[xs.length - 1], List.getElem_mem _, ?_⟩
  have ix : ixN xs.length (-1) = some (xs.length - 1) := by
    unfold ixN
    rw [if_neg (by decide), if_pos (by omega)]
    congr 1
    omega
  unfold atI
  rw [ix]
  exact List.getElem?_eq_getElem _
theorem some_call {h : Hd} {p N : Nat} (P : Pen h p N) (hN : N ≤ 700000000000) : ∃ T h', F_law_some [.ref p, .str SG, .int 6] h = .ok (.str T) h' ∧ TextOk T ∧ 1 ≤ T.length ∧ unlB T = true ∧ Pen h' p (N + 10) ∧ SHF.Keep p h h' := by
  obtain ⟨T, o, e, T1, T6, P1, rest, pm⟩ := some_ok take_ok h p N SG 6 P (by omega) (by decide) (by rw [sg_len]; decide) (by rw [sg_len]; decide)
  obtain ⟨a, b, c⟩ := sub_text pm sg_nodup sg_signs
  exact ⟨T, _, e, ⟨a, b, by omega⟩, T1, unl_of a b T1 (by omega), P1.up (by first | omega | simp), by simp, fun i hi ne => List.getElem?_set_ne (Ne.symm ne)⟩
theorem toD_head (sh : Sh) : ∃ w r, toD sh = .tup (.str w :: r) := by cases sh <;> exact ⟨_, _, rfl⟩
noncomputable def F_law : SF := gcF (bodyR (b_law F_law_deep F_law_odd_ones F_law_odd_parts (F_law_parts 6) F_law_pen (F_law_put 6) (F_law_shape 5) F_law_signs F_law_some F_law_take F_law_wide F_is_shape) 11)
theorem isnot_tt (h : Hd) : gIsNot (.bl true) (.bl true) h = .ok (.bl false) h := rfl
theorem isnot_ff (h : Hd) : gIsNot (.bl false) (.bl false) h = .ok (.bl false) h := rfl
theorem law_ok (ns : List Int) : ∃ h', F_law [.rol (ns.map D.int)] [] = .ok (.bl true) h' := by
  suffices h : Done (b_law F_law_deep F_law_odd_ones F_law_odd_parts (F_law_parts 6) F_law_pen (F_law_put 6) (F_law_shape 5) F_law_signs F_law_some F_law_take F_law_wide F_is_shape [some (.rol (ns.map D.int)), none, none, none, none, none, none, none, none, none, none] []) by
    obtain ⟨h1, e⟩ := h
    exact gc_some (body_rt e)
  have c5 : cost 5 = 16807000 := by decide
  have es : ∀ h', F_law_signs [] h' = .ok (.str SG) h' := fun h' => signs_ok h'
  unfold b_law
  obtain ⟨p, g, e0, _, P0⟩ := pen_ok ns []
  have e0 : F_law_pen [.rol (ns.map D.int)] [] = .ok (.ref p) ([] ++ g) := e0
  refine done_seq (t_set (e_a (e_cons (e_v rfl) e_nil) (e_call rfl e0))) ?_
  clear e0
  generalize ([] ++ g : Hd) = h0 at P0
  have lo := forL_all (ck := fun _ => True) (g := kN 2) (b := (sSeq (sSet 3 (sA (sN 2 F_law_take) (sCons (sV 1) (sCons (sC (.int 2)) sNil))))
   (sSeq (sSet 4 (sA (sN 4 (F_law_shape 5)) (sCons (sV 1) (sCons (sA gLst (sCons (sC (.int 23)) sNil)) (sCons (sC (.int 5)) (sCons (sA (sN 3 F_law_some) (sCons (sV 1) (sCons (sA (sN 0 F_law_signs) sNil) (sCons (sC (.int 6)) sNil)))) sNil))))))
   (sSeq (sSet 5 (s2 gIx (sA (sN 1 (F_law_parts 6)) (sCons (sV 4) sNil)) (s1 gNeg (sC (.int 1)))))
   (sSeq (sSet 6 (s2 gIx (sA gLst (sCons (sA (sN 1 F_law_odd_ones) (sCons (sV 1) sNil)) (sCons (sA (sN 2 F_law_odd_parts) (sCons (sV 1) (sCons (sV 5) sNil))) sNil))) (sV 3)))
   (sSeq (sSet 7 (sA (sN 2 F_law_take) (sCons (sV 1) (sCons (sA gLen (sCons (sA (sN 1 (F_law_parts 6)) (sCons (sV 4) sNil)) sNil)) sNil))))
   (sSeq (sSet 8 (sA (sN 3 (F_law_put 6)) (sCons (sV 4) (sCons (sV 7) (sCons (s2 gIx (sV 6) (sA (sN 2 F_law_take) (sCons (sV 1) (sCons (sA gLen (sCons (sV 6) sNil)) sNil)))) sNil)))))
   (sIf (sOr (sT (s2 gIsNot (sA (sN 1 F_is_shape) (sCons (sV 4) sNil)) (sC (.bl true)))) (sOr (sT (s2 gIsNot (sA (sN 1 F_is_shape) (sCons (sV 8) sNil)) (sC (.bl false)))) (sT (s2 gIsNot (sA (sN 1 F_is_shape) (sCons (sV 4) sNil)) (sC (.bl true))))))
    (sRet (sC (.bl false)))
    sNx)))))))) (rng 0 (4 : Int).toNat)
    (fun pre τ h' => ∃ t2 t3 t4 t5 t6 t7 t8, τ = [some (.rol (ns.map D.int)), some (.ref p), t2, t3, t4, t5, t6, t7, t8, none, none] ∧ Pen h' p (20000000 * pre.length)) (fun _ _ _ _ => True.intro) ?_
    (rng 0 (4 : Int).toNat) [] [some (.rol (ns.map D.int)), some (.ref p), none, none, none, none, none, none, none, none, none] h0 rfl ⟨none, none, none, none, none, none, none, rfl, P0⟩
  rotate_left
  · rintro pre x post τ h' all ⟨t2, t3, t4, t5, t6, t7, t8, rfl, P⟩
    obtain ⟨lp, rfl⟩ := rng_at all
    have lp : pre.length < 4 := lp
    refine ⟨_, _, rfl, ?_⟩
    obtain ⟨kd, h1, e1, kd0, kd1, P1, K1⟩ := take_call (m := 2) P (by omega) (by decide) (by decide)
    have P1a : Pen (h1 ++ [O.lst [.int 23]]) p (20000000 * pre.length + 1) := Pen.app P1
    obtain ⟨T, h2, e2, tk, T1, uT, P2, K2⟩ := some_call P1a (by omega)
    have q2 : h2[h1.length]? = some (.lst [.int 23]) := K2.get get_last (by have := Pen.lt P1; omega)
    obtain ⟨sh, h3, k3, e3, l3, dr, w3, k30, x3, z3⟩ := shape_ok 5 5 (by decide) (by decide) h2 p h1.length _ 23 T ⟨P2, q2, Pen.lt P1⟩ (by decide) (by omega) T1 (by have := tk.2.2; omega)
    have fn : Fine 5 sh := drawn_fine tk dr
    have g5 : good 5 sh := dr.good
    have g6 : good 6 sh := good_le g5 (by decide)
    have P3 := w3.pen
    obtain ⟨a4, g4, e4, la4, ea4⟩ := law_parts_ok 6 sh h3 (by decide) g6
    obtain ⟨d, hd, ed⟩ := atI_last (xs := (parts sh).map toD) (by rw [parts_eq]; simp)
    obtain ⟨q, hq, rfl⟩ := List.mem_map.mp hd
    have fq : Fine 5 q := fine_parts fn q hq
    have P4 : Pen (h3 ++ g4) p _ := Pen.app P3
    generalize (h3 ++ g4 : Hd) = h4 at e4 ea4 P4
    obtain ⟨a5, h5, xs5, e5, ea5, x51, x52, lb5, P5, K5, la5⟩ := odd_ones_ok P4 (by omega)
    obtain ⟨a6, h6, xs6, e6, ea6, x61, x62, lb6, P6, K6, la6⟩ := odd_parts_ok (pt := toD q) P5 (by omega) (toD_head q) (fine_al _ fq)
    have pl4 := Pen.lt P4
    have ea5' := K6.get ea5 (by omega)
    have pick : ∃ b xs, gIx (.ref h6.length) (.int kd) (h6 ++ [O.lst [.ref a5, .ref a6]]) = .ok (.ref b) (h6 ++ [O.lst [.ref a5, .ref a6]]) ∧ (h6 ++ [O.lst [.ref a5, .ref a6]])[b]? = some (.lst xs) ∧ b ≠ p ∧ 1 ≤ xs.length ∧ xs.length ≤ 300 ∧ LB (h6 ++ [O.lst [.ref a5, .ref a6]]) xs := by
      have : kd = 0 ∨ kd = 1 := by omega
      rcases this with rfl | rfl
      · exact ⟨a5, xs5, ix_of get_last (atI_0 _ _), get_left ea5', by omega, x51, x52, lb5.up (by have := K6.1; simp; omega)⟩
      · exact ⟨a6, xs6, ix_of get_last (atI_1 _ _ _), get_left ea6, by have := Pen.lt P5; omega, x61, x62, lb6.up (by simp)⟩
    obtain ⟨b, xs, e7, ea7, bp, x71, x72, lb7⟩ := pick
    have P7 : Pen (h6 ++ [O.lst [.ref a5, .ref a6]]) p _ := Pen.app P6
    generalize hh7 : (h6 ++ [O.lst [.ref a5, .ref a6]] : Hd) = h7 at e7 ea7 lb7 P7
    obtain ⟨a8, g8, e8, la8, ea8⟩ := law_parts_ok 6 sh h7 (by decide) g6
    have P8 : Pen (h7 ++ g8) p _ := Pen.app P7
    have ea8b : (h7 ++ g8)[b]? = some (.lst xs) := get_left ea7
    have lb8 : LB (h7 ++ g8) xs := lb7.up (by simp)
    generalize (h7 ++ g8 : Hd) = h8 at e8 ea8 P8 ea8b lb8
    have gl8 : gLen [.ref a8] h8 = .ok (.int (size sh)) h8 := by simp only [gLen, seqD, ea8, List.length_map, size]
    have sp := size_pos sh
    have s24 : size sh ≤ 24 := by unfold size; omega
    obtain ⟨i, h9, e9, i0, i1, P9, K9⟩ := take_call (m := size sh) P8 (by omega) (by omega) (by omega)
    have ea9 := K9.get ea8b bp
    have lb9 := lb8.up K9.1
    have gl9 : gLen [.ref b] h9 = .ok (.int xs.length) h9 := by simp only [gLen, seqD, ea9]
    obtain ⟨r, h10, e10, r0, r1, P10, K10⟩ := take_call (m := (xs.length : Int)) P9 (by omega) (by omega) (by omega)
    obtain ⟨r, rfl⟩ := Int.eq_ofNat_of_zero_le r0
    have ea10 := K10.get ea9 bp
    have lb10 := lb9.up K10.1
    have hr : r < xs.length := by omega
    obtain ⟨bx, ax⟩ := lb10 xs[r] (List.getElem_mem hr)
    have ix10 : gIx (.ref b) (.int (r : Int)) h10 = .ok xs[r] h10 := ix_of ea10 (atI_nat (List.getElem?_eq_getElem hr))
    generalize xs[r] = thing at bx ax ix10
    obtain ⟨bad, e11, bb, ab⟩ := put_ok 6 sh i thing h10 h10 (by decide) g6 i0 i1 (Nat.le_refl _) (fine_al _ fn) ax bx
    have y1 := yes_shape (h := h10) (fine_al _ fn) fn (by
      have : ∀ {n : Nat} {s : Sh}, Fine n s → dep s ≤ n := by
        intro n
        induction n with
        | zero => intro s f; cases f
        | succ n ih =>
          intro s f
          cases f with
          | mk o k =>
            rw [dep_eq]
            have := depL_le.mpr fun p hp => ih (k p hp)
            omega
      exact this fn) s24
    have n1 := not_shape ab bb
    refine ⟨[some (.rol (ns.map D.int)), some (.ref p), some (.int (pre.length : Nat)), some (.int kd), some (toD sh), some (toD q), some (.ref b), some (.int i), some bad, none, none], h10, ?_, _, _, _, _, _, _, _, rfl, P10.up (by rw [List.length_append, List.length_singleton]; omega)⟩
    refine t_seq (t_set (e_a (e_cons (e_v rfl) (e_cons e_c e_nil)) (e_call rfl e1))) ?_
    refine t_seq (t_set (e_a (e_cons (e_v rfl) (e_cons (e_a (e_cons e_c e_nil) rfl) (e_cons e_c (e_cons (e_a (e_cons (e_v rfl) (e_cons (e_a e_nil (e_call rfl (es _))) (e_cons e_c e_nil))) (e_call rfl e2)) e_nil)))) (e_call rfl e3))) ?_
    refine t_seq (t_set (e_2 (e_a (e_cons (e_v rfl) e_nil) (e_call rfl e4)) (e_1 e_c rfl) (ix_of ea4 ed))) ?_
    refine t_seq (t_set (e_2 (e_a (e_cons (e_a (e_cons (e_v rfl) e_nil) (e_call rfl e5)) (e_cons (e_a (e_cons (e_v rfl) (e_cons (e_v rfl) e_nil)) (e_call rfl e6)) e_nil)) (r := .ok (.ref h6.length) h7) (by rw [← hh7]; rfl)) (e_v rfl) e7)) ?_
    refine t_seq (t_set (e_a (e_cons (e_v rfl) (e_cons (e_a (e_cons (e_a (e_cons (e_v rfl) e_nil) (e_call rfl e8)) e_nil) gl8) e_nil)) (e_call rfl e9))) ?_
    refine t_seq (t_set (e_a (e_cons (e_v rfl) (e_cons (e_v rfl) (e_cons (e_2 (e_v rfl) (e_a (e_cons (e_v rfl) (e_cons (e_a (e_cons (e_v rfl) e_nil) gl9) e_nil)) (e_call rfl e10)) ix10) e_nil))) (e_call rfl e11))) ?_
    exact t_ifF (e_orF (e_T (e_2 (e_a (e_cons (e_v rfl) e_nil) (e_call rfl y1)) e_c (isnot_tt _))) (e_orF (e_T (e_2 (e_a (e_cons (e_v rfl) e_nil) (e_call rfl n1)) e_c (isnot_ff _))) (e_T (e_2 (e_a (e_cons (e_v rfl) e_nil) (e_call rfl y1)) e_c (isnot_tt _))))) t_nx
  obtain ⟨τ', h1, e, t2, t3, t4, t5, t6, t7, t8, rfl, P1⟩ := lo
  have lr : (rng 0 (4 : Int).toNat).length = 4 := by simp [rng]
  rw [lr] at P1
  refine done_seq (t_for (e_rg1 (e_cons e_c e_nil) (by constructor <;> decide)) e) ?_
  clear e
  obtain ⟨T, h2, e2, tk, T1, uT, P2, _⟩ := some_call P1 (by decide)
  refine done_seq (t_set (e_a (e_cons e_c (e_cons (e_a (e_cons (e_v rfl) (e_cons (e_a e_nil (e_call rfl (es _))) (e_cons e_c e_nil))) (e_call rfl e2)) e_nil)) (r := .ok (toD (.one T)) h2) (by rw [toD]; rfl))) ?_
  have f1 : Fine 1 (.one T) := .mk uT (by simp [kids])
  have d1 : dep (.one T) = 1 := by simp [dep]
  have z1 : size (.one T) = 1 := by simp [size, parts]
  have fr : Fine 1 (.row []) := .mk (show [].length ≤ 6 by simp) (by simp [kids])
  have dr : dep (.row []) = 1 := by simp [dep, depL]
  have zr : size (.row []) = 1 := by simp [size, parts, partsL]
  have tr : ∀ h' : Hd, gTup [.str "row", .tup []] h' = .ok (toD (.row [])) h' := fun h' => by rw [toD, toDs]; rfl
  obtain ⟨sa, h3, e3, fa, da, za, P3, _⟩ := deep_ok 4 (by decide) P2 (by omega) f1
  obtain ⟨sb, h4, e4, fb, db, zb, P4, _⟩ := deep_ok 5 (by decide) P3 (by omega) f1
  have ya := yes_shape (h := h3) (fine_al _ fa) fa (by omega) (by omega)
  have nb := no_shape (h := h4) (fine_al _ fb) fb (.inl (by omega))
  refine done_seq (t_ifF (e_orF (e_T (e_2 (e_a (e_cons (e_a (e_cons (e_v rfl) (e_cons (e_v rfl) (e_cons e_c e_nil))) (e_call rfl e3)) e_nil) (e_call rfl ya)) e_c (isnot_tt _))) (e_T (e_2 (e_a (e_cons (e_a (e_cons (e_v rfl) (e_cons (e_v rfl) (e_cons e_c e_nil))) (e_call rfl e4)) e_nil) (e_call rfl nb)) e_c (isnot_ff _)))) t_nx) ?_
  obtain ⟨sc, h5, e5, fc, dc, zc, P5, _⟩ := deep_ok 4 (by decide) P4 (by omega) fr
  obtain ⟨sd, h6, e6, fd, dd, zd, P6, _⟩ := deep_ok 5 (by decide) P5 (by omega) fr
  have yc := yes_shape (h := h5) (fine_al _ fc) fc (by omega) (by omega)
  have nd := no_shape (h := h6) (fine_al _ fd) fd (.inl (by omega))
  refine done_seq (t_ifF (e_orF (e_T (e_2 (e_a (e_cons (e_a (e_cons (e_v rfl) (e_cons (e_a (e_cons e_c (e_cons (e_a e_nil rfl) e_nil)) (tr _)) (e_cons e_c e_nil))) (e_call rfl e5)) e_nil) (e_call rfl yc)) e_c (isnot_tt _))) (e_T (e_2 (e_a (e_cons (e_a (e_cons (e_v rfl) (e_cons (e_a (e_cons e_c (e_cons (e_a e_nil rfl) e_nil)) (tr _)) (e_cons e_c e_nil))) (e_call rfl e6)) e_nil) (e_call rfl nd)) e_c (isnot_ff _)))) t_nx) ?_
  obtain ⟨r, h7, e7, r0, r1, P7, _⟩ := take_call (m := 5) P6 (by omega) (by decide) (by decide)
  obtain ⟨r, rfl⟩ := Int.eq_ofNat_of_zero_le r0
  have e20 : (20 : Int) + (r : Int) = ((20 + r : Nat) : Int) := by omega
  refine done_seq (t_set (e_2 e_c (e_a (e_cons (e_v rfl) (e_cons e_c e_nil)) (e_call rfl e7)) (r := .ok (.int ((20 + r : Nat) : Int)) h7) (by rw [← e20]; rfl))) ?_
  obtain ⟨se, h8, e8, fe, de, ze, P8, _⟩ := wide_ok (20 + r) (by omega) (by omega) P7 (by omega) uT
  obtain ⟨sf, h9, e9, ff, df, zf, P9, _⟩ := wide_ok 24 (by decide) (by decide) P8 (by omega) uT
  obtain ⟨sg, h10, e10, fg, dg, zg, P10, _⟩ := wide_ok 25 (by decide) (by decide) P9 (by omega) uT
  have ye := yes_shape (h := h8) (fine_al _ fe) fe (by omega) (by omega)
  have yf := yes_shape (h := h9) (fine_al _ ff) ff (by omega) (by omega)
  have ng := no_shape (h := h10) (fine_al _ fg) fg (.inr (by omega))
  have yo := yes_shape (h := h10) (fine_al _ f1) f1 (by omega) (by omega)
  refine done_seq (t_ifF (e_orF (e_T (e_2 (e_a (e_cons (e_a (e_cons (e_v rfl) (e_cons (e_v rfl) (e_cons (e_v rfl) e_nil))) (e_call rfl e8)) e_nil) (e_call rfl ye)) e_c (isnot_tt _))) (e_T (e_2 (e_a (e_cons (e_a (e_cons (e_v rfl) (e_cons (e_v rfl) (e_cons e_c e_nil))) (e_call rfl e9)) e_nil) (e_call rfl yf)) e_c (isnot_tt _)))) t_nx) ?_
  exact ⟨h10, t_ret (e_andVT (e_2 (e_a (e_cons (e_a (e_cons (e_v rfl) (e_cons (e_v rfl) (e_cons e_c e_nil))) (e_call rfl e10)) e_nil) (e_call rfl ng)) e_c rfl) (e_2 (e_a (e_cons (e_v rfl) e_nil) (e_call rfl yo)) e_c rfl))⟩
noncomputable def F_inner : SF := SHF.F_inner
noncomputable def F_law_inner : SF := SHF.F_inner
noncomputable def F_law_parts : Nat → SF := SHF.F_law_parts
noncomputable def F_law_shape : Nat → SF := SHF.F_law_shape
noncomputable def F_law_some : SF := SHF.F_law_some
noncomputable def F_law_take : SF := SHF.F_law_take
noncomputable def F_law_signs : SF := SHF.F_law_signs
noncomputable def F_law_pen : SF := SHF.F_law_pen
end Q4
set_option Elab.async false
set_option linter.all false
set_option maxRecDepth 100000
set_option maxHeartbeats 4000000
namespace K04
open PySem PySem.Spec L2 MI
section
variable {P : Program} {w : World} {K : PySem.W.Frag} {mg : Str → Option Value} {base : Heap} {f : Addr} {fd : FuncData}
theorem d_is_number (Fu : Fun K "is_number" "is_number" (top 1) f fd) (mk : mg "is_number" = some (.ref f)) (kp : PySem.W.keepIn K (.ref f) = true) (bd : Binds K fd ["thing"] []) (M : Nm mg) : Dn P w K mg base 1 "is_number" ["thing"] (spOf K 1 (Q4.F_is_number)) f fd :=
  ⟨def_gc Fu sc_is_number (m_is_number M), mk, kp, bd⟩
theorem d_is_number_from (Fu : Fun K "is_number_from" "is_number_from" (top 2) f fd) (mk : mg "is_number_from" = some (.ref f)) (kp : PySem.W.keepIn K (.ref f) = true) (bd : Binds K fd ["thing", "low", "high"] []) {a_is_number : Addr} {d_is_number : FuncData} (D_is_number : Dn P w K mg base 1 "is_number" ["thing"] (spOf K 1 (Q4.F_is_number)) a_is_number d_is_number) : Dn P w K mg base 2 "is_number_from" ["thing", "low", "high"] (spOf K 3 (Q4.F_is_number_from)) f fd :=
  ⟨def_gc Fu sc_is_number_from (m_is_number_from D_is_number (by decide)), mk, kp, bd⟩
theorem d_is_row (Fu : Fun K "is_row" "is_row" (top 3) f fd) (mk : mg "is_row" = some (.ref f)) (kp : PySem.W.keepIn K (.ref f) = true) (bd : Binds K fd ["thing", "low", "high"] []) (M : Nm mg) : Dn P w K mg base 1 "is_row" ["thing", "low", "high"] (spOf K 3 (Q4.F_is_row)) f fd :=
  ⟨def_gc Fu sc_is_row (m_is_row M), mk, kp, bd⟩
theorem d_is_sign (Fu : Fun K "is_sign" "is_sign" (top 4) f fd) (mk : mg "is_sign" = some (.ref f)) (kp : PySem.W.keepIn K (.ref f) = true) (bd : Binds K fd ["thing"] []) (M : Nm mg) : Dn P w K mg base 1 "is_sign" ["thing"] (spOf K 1 (Q4.F_is_sign)) f fd :=
  ⟨def_gc Fu sc_is_sign (m_is_sign M), mk, kp, bd⟩
theorem d_is_unlike_signs (Fu : Fun K "is_unlike_signs" "is_unlike_signs" (top 5) f fd) (mk : mg "is_unlike_signs" = some (.ref f)) (kp : PySem.W.keepIn K (.ref f) = true) (bd : Binds K fd ["thing"] []) (M : Nm mg) {a_is_sign : Addr} {d_is_sign : FuncData} (D_is_sign : Dn P w K mg base 1 "is_sign" ["thing"] (spOf K 1 (Q4.F_is_sign)) a_is_sign d_is_sign) : Dn P w K mg base 2 "is_unlike_signs" ["thing"] (spOf K 1 (Q4.F_is_unlike_signs)) f fd :=
  ⟨def_gc Fu sc_is_unlike_signs (m_is_unlike_signs M D_is_sign (by decide)), mk, kp, bd⟩
theorem d_inner (Fu : Fun K "inner" "inner" (top 13) f fd) (mk : mg "inner" = some (.ref f)) (kp : PySem.W.keepIn K (.ref f) = true) (bd : Binds K fd ["shape"] [])  : Dn P w K mg base 1 "inner" ["shape"] (spOf K 1 (Q4.F_inner)) f fd :=
  ⟨def_gc Fu sc_inner (m_inner ), mk, kp, bd⟩
theorem d_are_times (Fu : Fun K "are_times" "are_times" (top 12) f fd) (mk : mg "are_times" = some (.ref f)) (kp : PySem.W.keepIn K (.ref f) = true) (bd : Binds K fd ["low", "high"] []) {a_is_number_from : Addr} {d_is_number_from : FuncData} (D_is_number_from : Dn P w K mg base 2 "is_number_from" ["thing", "low", "high"] (spOf K 3 (Q4.F_is_number_from)) a_is_number_from d_is_number_from) : Dn P w K mg base 3 "are_times" ["low", "high"] (spOf K 2 (Q4.F_are_times)) f fd :=
  ⟨def_gc Fu sc_are_times (m_are_times D_is_number_from (by decide)), mk, kp, bd⟩
theorem d_is_form (Fu : Fun K "is_form" "is_form" (top 11) f fd) (mk : mg "is_form" = some (.ref f)) (kp : PySem.W.keepIn K (.ref f) = true) (bd : Binds K fd ["thing"] []) (M : Nm mg) {a_are_times : Addr} {d_are_times : FuncData} (D_are_times : Dn P w K mg base 3 "are_times" ["low", "high"] (spOf K 2 (Q4.F_are_times)) a_are_times d_are_times) {a_is_row : Addr} {d_is_row : FuncData} (D_is_row : Dn P w K mg base 1 "is_row" ["thing", "low", "high"] (spOf K 3 (Q4.F_is_row)) a_is_row d_is_row) {a_is_unlike_signs : Addr} {d_is_unlike_signs : FuncData} (D_is_unlike_signs : Dn P w K mg base 2 "is_unlike_signs" ["thing"] (spOf K 1 (Q4.F_is_unlike_signs)) a_is_unlike_signs d_is_unlike_signs) : Dn P w K mg base 4 "is_form" ["thing"] (spOf K 1 (Q4.F_is_form)) f fd :=
  ⟨def_gc Fu sc_is_form (m_is_form M D_are_times (by decide) D_is_row (by decide) D_is_unlike_signs (by decide)), mk, kp, bd⟩
theorem d_parts_count (Fu : Fun K "parts_count" "parts_count" (top 10) f fd) (mk : mg "parts_count" = some (.ref f)) (kp : PySem.W.keepIn K (.ref f) = true) (bd : Binds K fd ["thing", "deep", "most"] []) {a_inner : Addr} {d_inner : FuncData} (D_inner : Dn P w K mg base 1 "inner" ["shape"] (spOf K 1 (Q4.F_inner)) a_inner d_inner) {a_is_form : Addr} {d_is_form : FuncData} (D_is_form : Dn P w K mg base 4 "is_form" ["thing"] (spOf K 1 (Q4.F_is_form)) a_is_form d_is_form) : ∀ n : Nat, Dn P w K mg base (n + 4) "parts_count" ["thing", "deep", "most"] (spOf K 3 (Q4.F_parts_count n)) f fd := by
  intro n
  induction n with
  | zero => exact ⟨fn_no (ps := ["thing", "deep", "most"]), mk, kp, bd⟩
  | succ n self0 =>
    have self : ∀ _ : Nat, Dn P w K mg base (n + 4) "parts_count" ["thing", "deep", "most"] (spOf K 3 (Q4.F_parts_count n)) f fd := fun _ => self0
    have e : n + 1 + 4 = n + 4 + 1 := by omega
    rw [e]
    exact ⟨def_gc Fu sc_parts_count (m_parts_count D_inner (by omega) D_is_form (by omega) (self n) (by omega)), mk, kp, bd⟩
theorem d_is_shape (Fu : Fun K "is_shape" "is_shape" (top 9) f fd) (mk : mg "is_shape" = some (.ref f)) (kp : PySem.W.keepIn K (.ref f) = true) (bd : Binds K fd ["thing"] []) (C : Cn mg) {a_parts_count : Addr} {d_parts_count : FuncData} (D_parts_count : Dn P w K mg base 10 "parts_count" ["thing", "deep", "most"] (spOf K 3 (Q4.F_parts_count 6)) a_parts_count d_parts_count) : Dn P w K mg base 11 "is_shape" ["thing"] (spOf K 1 (Q4.F_is_shape)) f fd :=
  ⟨def_gc Fu sc_is_shape (m_is_shape C D_parts_count (by decide)), mk, kp, bd⟩
theorem d_law_pen (Fu : Fun K "_law_pen" "_law_pen" (top 15) f fd) (mk : mg "_law_pen" = some (.ref f)) (kp : PySem.W.keepIn K (.ref f) = true) (bd : Binds K fd ["_law_script"] [])  : Dn P w K mg base 1 "_law_pen" ["_law_script"] (spOf K 1 (Q4.F_law_pen)) f fd :=
  ⟨def_gc Fu sc_law_pen (m_law_pen ), mk, kp, bd⟩
theorem d_law_take (Fu : Fun K "_law_take" "_law_take" (top 16) f fd) (mk : mg "_law_take" = some (.ref f)) (kp : PySem.W.keepIn K (.ref f) = true) (bd : Binds K fd ["_law_pen_here", "_law_many"] []) (M : Nm mg) : Dn P w K mg base 1 "_law_take" ["_law_pen_here", "_law_many"] (spOf K 2 (Q4.F_law_take)) f fd :=
  ⟨def_gc Fu sc_law_take (m_law_take M), mk, kp, bd⟩
theorem d_law_signs (Fu : Fun K "_law_signs" "_law_signs" (top 17) f fd) (mk : mg "_law_signs" = some (.ref f)) (kp : PySem.W.keepIn K (.ref f) = true) (bd : Binds K fd [] [])  : Dn P w K mg base 1 "_law_signs" [] (spOf K 0 (Q4.F_law_signs)) f fd :=
  ⟨def_gc Fu sc_law_signs (m_law_signs ), mk, kp, bd⟩
theorem d_law_some (Fu : Fun K "_law_some" "_law_some" (top 18) f fd) (mk : mg "_law_some" = some (.ref f)) (kp : PySem.W.keepIn K (.ref f) = true) (bd : Binds K fd ["_law_pen_here", "_law_rest", "_law_most"] []) (M : Nm mg) {a_law_take : Addr} {d_law_take : FuncData} (D_law_take : Dn P w K mg base 1 "_law_take" ["_law_pen_here", "_law_many"] (spOf K 2 (Q4.F_law_take)) a_law_take d_law_take) : Dn P w K mg base 2 "_law_some" ["_law_pen_here", "_law_rest", "_law_most"] (spOf K 3 (Q4.F_law_some)) f fd :=
  ⟨def_gc Fu sc_law_some (m_law_some M D_law_take (by decide)), mk, kp, bd⟩
theorem d_law_shape (Fu : Fun K "_law_shape" "_law_shape" (top 19) f fd) (mk : mg "_law_shape" = some (.ref f)) (kp : PySem.W.keepIn K (.ref f) = true) (bd : Binds K fd ["_law_pen_here", "_law_purse", "_law_deep_here", "_law_tongue"] []) (M : Nm mg) {a_law_some : Addr} {d_law_some : FuncData} (D_law_some : Dn P w K mg base 2 "_law_some" ["_law_pen_here", "_law_rest", "_law_most"] (spOf K 3 (Q4.F_law_some)) a_law_some d_law_some) {a_law_take : Addr} {d_law_take : FuncData} (D_law_take : Dn P w K mg base 1 "_law_take" ["_law_pen_here", "_law_many"] (spOf K 2 (Q4.F_law_take)) a_law_take d_law_take) : ∀ n : Nat, Dn P w K mg base (n + 2) "_law_shape" ["_law_pen_here", "_law_purse", "_law_deep_here", "_law_tongue"] (spOf K 4 (Q4.F_law_shape n)) f fd := by
  intro n
  induction n with
  | zero => exact ⟨fn_no (ps := ["_law_pen_here", "_law_purse", "_law_deep_here", "_law_tongue"]), mk, kp, bd⟩
  | succ n self0 =>
    have self : ∀ _ : Nat, Dn P w K mg base (n + 2) "_law_shape" ["_law_pen_here", "_law_purse", "_law_deep_here", "_law_tongue"] (spOf K 4 (Q4.F_law_shape n)) f fd := fun _ => self0
    have e : n + 1 + 2 = n + 2 + 1 := by omega
    rw [e]
    exact ⟨def_gc Fu sc_law_shape (m_law_shape M (self n) (by omega) D_law_some (by omega) D_law_take (by omega)), mk, kp, bd⟩
theorem d_law_inner (Fu : Fun K "_law_inner" "_law_inner" (top 20) f fd) (mk : mg "_law_inner" = some (.ref f)) (kp : PySem.W.keepIn K (.ref f) = true) (bd : Binds K fd ["_law_shape_here"] [])  : Dn P w K mg base 1 "_law_inner" ["_law_shape_here"] (spOf K 1 (Q4.F_law_inner)) f fd :=
  ⟨def_gc Fu sc_law_inner (m_law_inner ), mk, kp, bd⟩
theorem d_law_parts (Fu : Fun K "_law_parts" "_law_parts" (top 21) f fd) (mk : mg "_law_parts" = some (.ref f)) (kp : PySem.W.keepIn K (.ref f) = true) (bd : Binds K fd ["_law_shape_here"] []) {a_law_inner : Addr} {d_law_inner : FuncData} (D_law_inner : Dn P w K mg base 1 "_law_inner" ["_law_shape_here"] (spOf K 1 (Q4.F_law_inner)) a_law_inner d_law_inner) : ∀ n : Nat, Dn P w K mg base (n + 1) "_law_parts" ["_law_shape_here"] (spOf K 1 (Q4.F_law_parts n)) f fd := by
  intro n
  induction n with
  | zero => exact ⟨fn_no (ps := ["_law_shape_here"]), mk, kp, bd⟩
  | succ n self0 =>
    have self : ∀ _ : Nat, Dn P w K mg base (n + 1) "_law_parts" ["_law_shape_here"] (spOf K 1 (Q4.F_law_parts n)) f fd := fun _ => self0
    have e : n + 1 + 1 = n + 1 + 1 := by omega
    rw [e]
    exact ⟨def_gc Fu sc_law_parts (m_law_parts D_law_inner (by omega) (self n) (by omega)), mk, kp, bd⟩
theorem d_law_put (Fu : Fun K "_law_put" "_law_put" (top 22) f fd) (mk : mg "_law_put" = some (.ref f)) (kp : PySem.W.keepIn K (.ref f) = true) (bd : Binds K fd ["_law_shape_here", "_law_at", "_law_thing"] []) (M : Nm mg) {a_law_inner : Addr} {d_law_inner : FuncData} (D_law_inner : Dn P w K mg base 1 "_law_inner" ["_law_shape_here"] (spOf K 1 (Q4.F_law_inner)) a_law_inner d_law_inner) {a_law_parts : Addr} {d_law_parts : FuncData} (D_law_parts : Dn P w K mg base 7 "_law_parts" ["_law_shape_here"] (spOf K 1 (Q4.F_law_parts 6)) a_law_parts d_law_parts) : ∀ n : Nat, Dn P w K mg base (n + 7) "_law_put" ["_law_shape_here", "_law_at", "_law_thing"] (spOf K 3 (Q4.F_law_put n)) f fd := by
  intro n
  induction n with
  | zero => exact ⟨fn_no (ps := ["_law_shape_here", "_law_at", "_law_thing"]), mk, kp, bd⟩
  | succ n self0 =>
    have self : ∀ _ : Nat, Dn P w K mg base (n + 7) "_law_put" ["_law_shape_here", "_law_at", "_law_thing"] (spOf K 3 (Q4.F_law_put n)) f fd := fun _ => self0
    have e : n + 1 + 7 = n + 7 + 1 := by omega
    rw [e]
    exact ⟨def_gc Fu sc_law_put (m_law_put M D_law_inner (by omega) D_law_parts (by omega) (self n) (by omega)), mk, kp, bd⟩
theorem d_law_odd_ones (Fu : Fun K "_law_odd_ones" "_law_odd_ones" (top 23) f fd) (mk : mg "_law_odd_ones" = some (.ref f)) (kp : PySem.W.keepIn K (.ref f) = true) (bd : Binds K fd ["_law_pen_here"] []) (M : Nm mg) {a_law_signs : Addr} {d_law_signs : FuncData} (D_law_signs : Dn P w K mg base 1 "_law_signs" [] (spOf K 0 (Q4.F_law_signs)) a_law_signs d_law_signs) {a_law_some : Addr} {d_law_some : FuncData} (D_law_some : Dn P w K mg base 2 "_law_some" ["_law_pen_here", "_law_rest", "_law_most"] (spOf K 3 (Q4.F_law_some)) a_law_some d_law_some) {a_law_take : Addr} {d_law_take : FuncData} (D_law_take : Dn P w K mg base 1 "_law_take" ["_law_pen_here", "_law_many"] (spOf K 2 (Q4.F_law_take)) a_law_take d_law_take) : Dn P w K mg base 3 "_law_odd_ones" ["_law_pen_here"] (spOf K 1 (Q4.F_law_odd_ones)) f fd :=
  ⟨def_gc Fu sc_law_odd_ones (m_law_odd_ones M D_law_signs (by decide) D_law_some (by decide) D_law_take (by decide)), mk, kp, bd⟩
theorem d_law_odd_parts (Fu : Fun K "_law_odd_parts" "_law_odd_parts" (top 24) f fd) (mk : mg "_law_odd_parts" = some (.ref f)) (kp : PySem.W.keepIn K (.ref f) = true) (bd : Binds K fd ["_law_pen_here", "_law_part"] []) {a_law_take : Addr} {d_law_take : FuncData} (D_law_take : Dn P w K mg base 1 "_law_take" ["_law_pen_here", "_law_many"] (spOf K 2 (Q4.F_law_take)) a_law_take d_law_take) : Dn P w K mg base 2 "_law_odd_parts" ["_law_pen_here", "_law_part"] (spOf K 2 (Q4.F_law_odd_parts)) f fd :=
  ⟨def_gc Fu sc_law_odd_parts (m_law_odd_parts D_law_take (by decide)), mk, kp, bd⟩
theorem d_law_deep (Fu : Fun K "_law_deep" "_law_deep" (top 25) f fd) (mk : mg "_law_deep" = some (.ref f)) (kp : PySem.W.keepIn K (.ref f) = true) (bd : Binds K fd ["_law_pen_here", "_law_part", "_law_deep_here"] []) (M : Nm mg) {a_law_take : Addr} {d_law_take : FuncData} (D_law_take : Dn P w K mg base 1 "_law_take" ["_law_pen_here", "_law_many"] (spOf K 2 (Q4.F_law_take)) a_law_take d_law_take) : Dn P w K mg base 2 "_law_deep" ["_law_pen_here", "_law_part", "_law_deep_here"] (spOf K 3 (Q4.F_law_deep)) f fd :=
  ⟨def_gc Fu sc_law_deep (m_law_deep M D_law_take (by decide)), mk, kp, bd⟩
theorem d_law_counted (Fu : Fun K "_law_counted" "_law_counted" (top 26) f fd) (mk : mg "_law_counted" = some (.ref f)) (kp : PySem.W.keepIn K (.ref f) = true) (bd : Binds K fd ["_law_pen_here", "_law_one", "_law_size"] []) (M : Nm mg) {a_law_take : Addr} {d_law_take : FuncData} (D_law_take : Dn P w K mg base 1 "_law_take" ["_law_pen_here", "_law_many"] (spOf K 2 (Q4.F_law_take)) a_law_take d_law_take) : Dn P w K mg base 2 "_law_counted" ["_law_pen_here", "_law_one", "_law_size"] (spOf K 3 (Q4.F_law_counted)) f fd :=
  ⟨def_gc Fu sc_law_counted (m_law_counted M D_law_take (by decide)), mk, kp, bd⟩
theorem d_law_wide (Fu : Fun K "_law_wide" "_law_wide" (top 27) f fd) (mk : mg "_law_wide" = some (.ref f)) (kp : PySem.W.keepIn K (.ref f) = true) (bd : Binds K fd ["_law_pen_here", "_law_one", "_law_size"] []) (M : Nm mg) {a_law_counted : Addr} {d_law_counted : FuncData} (D_law_counted : Dn P w K mg base 2 "_law_counted" ["_law_pen_here", "_law_one", "_law_size"] (spOf K 3 (Q4.F_law_counted)) a_law_counted d_law_counted) {a_law_take : Addr} {d_law_take : FuncData} (D_law_take : Dn P w K mg base 1 "_law_take" ["_law_pen_here", "_law_many"] (spOf K 2 (Q4.F_law_take)) a_law_take d_law_take) : Dn P w K mg base 3 "_law_wide" ["_law_pen_here", "_law_one", "_law_size"] (spOf K 3 (Q4.F_law_wide)) f fd :=
  ⟨def_gc Fu sc_law_wide (m_law_wide M D_law_counted (by decide) D_law_take (by decide)), mk, kp, bd⟩
theorem d_law (Fu : Fun K "law" "law" (top 28) f fd) (mk : mg "law" = some (.ref f)) (kp : PySem.W.keepIn K (.ref f) = true) (bd : Binds K fd ["_law_script"] []) (M : Nm mg) {a_law_deep : Addr} {d_law_deep : FuncData} (D_law_deep : Dn P w K mg base 2 "_law_deep" ["_law_pen_here", "_law_part", "_law_deep_here"] (spOf K 3 (Q4.F_law_deep)) a_law_deep d_law_deep) {a_law_odd_ones : Addr} {d_law_odd_ones : FuncData} (D_law_odd_ones : Dn P w K mg base 3 "_law_odd_ones" ["_law_pen_here"] (spOf K 1 (Q4.F_law_odd_ones)) a_law_odd_ones d_law_odd_ones) {a_law_odd_parts : Addr} {d_law_odd_parts : FuncData} (D_law_odd_parts : Dn P w K mg base 2 "_law_odd_parts" ["_law_pen_here", "_law_part"] (spOf K 2 (Q4.F_law_odd_parts)) a_law_odd_parts d_law_odd_parts) {a_law_parts : Addr} {d_law_parts : FuncData} (D_law_parts : Dn P w K mg base 7 "_law_parts" ["_law_shape_here"] (spOf K 1 (Q4.F_law_parts 6)) a_law_parts d_law_parts) {a_law_pen : Addr} {d_law_pen : FuncData} (D_law_pen : Dn P w K mg base 1 "_law_pen" ["_law_script"] (spOf K 1 (Q4.F_law_pen)) a_law_pen d_law_pen) {a_law_put : Addr} {d_law_put : FuncData} (D_law_put : Dn P w K mg base 13 "_law_put" ["_law_shape_here", "_law_at", "_law_thing"] (spOf K 3 (Q4.F_law_put 6)) a_law_put d_law_put) {a_law_shape : Addr} {d_law_shape : FuncData} (D_law_shape : Dn P w K mg base 7 "_law_shape" ["_law_pen_here", "_law_purse", "_law_deep_here", "_law_tongue"] (spOf K 4 (Q4.F_law_shape 5)) a_law_shape d_law_shape) {a_law_signs : Addr} {d_law_signs : FuncData} (D_law_signs : Dn P w K mg base 1 "_law_signs" [] (spOf K 0 (Q4.F_law_signs)) a_law_signs d_law_signs) {a_law_some : Addr} {d_law_some : FuncData} (D_law_some : Dn P w K mg base 2 "_law_some" ["_law_pen_here", "_law_rest", "_law_most"] (spOf K 3 (Q4.F_law_some)) a_law_some d_law_some) {a_law_take : Addr} {d_law_take : FuncData} (D_law_take : Dn P w K mg base 1 "_law_take" ["_law_pen_here", "_law_many"] (spOf K 2 (Q4.F_law_take)) a_law_take d_law_take) {a_law_wide : Addr} {d_law_wide : FuncData} (D_law_wide : Dn P w K mg base 3 "_law_wide" ["_law_pen_here", "_law_one", "_law_size"] (spOf K 3 (Q4.F_law_wide)) a_law_wide d_law_wide) {a_is_shape : Addr} {d_is_shape : FuncData} (D_is_shape : Dn P w K mg base 11 "is_shape" ["thing"] (spOf K 1 (Q4.F_is_shape)) a_is_shape d_is_shape) : Dn P w K mg base 14 "law" ["_law_script"] (spOf K 1 (Q4.F_law)) f fd :=
  ⟨def_gc Fu sc_law (m_law M D_law_deep (by decide) D_law_odd_ones (by decide) D_law_odd_parts (by decide) D_law_parts (by decide) D_law_pen (by decide) D_law_put (by decide) D_law_shape (by decide) D_law_signs (by decide) D_law_some (by decide) D_law_take (by decide) D_law_wide (by decide) D_is_shape (by decide)), mk, kp, bd⟩
end
def spLaw (K : PySem.W.Frag) : Sp := fun vs H Q _ => ∃ (a : Addr) (ns : List Int), vs = [.ref a] ∧ SqF K H a (ns.map V.int) ∧ ns.length ≤ 63 ∧ ∀ H', Q (.bl true) H'
theorem reps_ints {K : PySem.W.Frag} {ι : List Addr} {H : Hp} : ∀ ns : List Int, Reps K ι H (ns.map V.int) (ns.map D.int)
  | [] => .nil
  | n :: ns => .cons (.int n) (reps_ints ns)
theorem law_to {K : PySem.W.Frag} (vs : List V) (H : Hp) (Q : VK) (E : XK) (h : spLaw K vs H Q E) : spOf K 1 Q4.F_law vs H Q E := by
  obtain ⟨a, ns, rfl, hS, hl, q⟩ := h
  obtain ⟨h', e⟩ := Q4.law_ok ns
  refine ⟨rfl, [], [.rol (ns.map D.int)], [], .cons (.rol hS (reps_ints ns)) .nil, ⟨List.nodup_nil, rfl, fun i a o z => by simp at z⟩, ?_⟩
  rw [e]
  intro ι' H' b g r hr
  cases r
  exact q H'
theorem sqf_of {K : PySem.W.Frag} {H : Hp} {a : Addr} {vs : List V} (hO : Only H) (hS : SqL K H a vs) : SqF K H a vs := by
  rcases hS with r | r
  · rcases r with r | ⟨o, r⟩
    · rcases hO a with z | ⟨o, xs, z⟩ <;> rw [z] at r <;> cases r
    · exact .inl ⟨o, r⟩
  · exact .inr (.inr r)
theorem all_mk {l : PySem.W.OpenLaw} {w : World} {K : PySem.W.Frag} {h : Heap} {mg : Str → Option Value} {fa f1 f2 f3 f4 f5 f6 f7 f8 f9 f10 f11 f12 f13 f14 f15 f16 f17 f18 f19 f20 f21 f22 f23 f24 : Addr} (X : K.In h) (G : h.Ns mainGlobals mg) (hfa : mg "law" = some (.ref fa))
    {od1 an1 od2 an2 od3 an3 od4 an4 od5 an5 od6 an6 od7 an7 od8 an8 od9 an9 od10 an10 od11 an11 od12 an12 od13 an13 od14 an14 od15 an15 od16 an16 od17 an17 od18 an18 od19 an19 od20 an20 od21 an21 od22 an22 od23 an23 od24 an24 : Option Addr} {sl1 sl2 sl3 sl4 sl5 sl6 sl7 sl8 sl9 sl10 sl11 sl12 sl13 sl14 sl15 sl16 sl17 sl18 sl19 sl20 sl21 sl22 sl23 sl24 : Array (Option Value)} {oc1 kV1 dc1 pm1 cd1 ct1 oc2 kV2 dc2 pm2 cd2 ct2 oc3 kV3 dc3 pm3 cd3 ct3 oc4 kV4 dc4 pm4 cd4 ct4 oc5 kV5 dc5 pm5 cd5 ct5 oc6 kV6 dc6 pm6 cd6 ct6 oc7 kV7 dc7 pm7 cd7 ct7 oc8 kV8 dc8 pm8 cd8 ct8 oc9 kV9 dc9 pm9 cd9 ct9 oc10 kV10 dc10 pm10 cd10 ct10 oc11 kV11 dc11 pm11 cd11 ct11 oc12 kV12 dc12 pm12 cd12 ct12 oc13 kV13 dc13 pm13 cd13 ct13 oc14 kV14 dc14 pm14 cd14 ct14 oc15 kV15 dc15 pm15 cd15 ct15 oc16 kV16 dc16 pm16 cd16 ct16 oc17 kV17 dc17 pm17 cd17 ct17 oc18 kV18 dc18 pm18 cd18 ct18 oc19 kV19 dc19 pm19 cd19 ct19 oc20 kV20 dc20 pm20 cd20 ct20 oc21 kV21 dc21 pm21 cd21 ct21 oc22 kV22 dc22 pm22 cd22 ct22 oc23 kV23 dc23 pm23 cd23 ct23 oc24 kV24 dc24 pm24 cd24 ct24 : Value}
    (a1 : PySem.W.nsIn K mainGlobals "is_number" = some (some (.ref f1))) (l1 : K.lookup f1 = some ⟨oc1, od1, .func (PySem.W.fnOf "is_number" "is_number" (defArgs (top 1)) (defBody (top 1)) (defScope (top 1)) .none kV1 dc1 pm1 an1 cd1 ct1), sl1⟩) (c1 : PySem.W.codeIn K cd1 "is_number" = true) (k1 : PySem.W.keepIn K (.ref f1) = true)
    (a2 : PySem.W.nsIn K mainGlobals "is_number_from" = some (some (.ref f2))) (l2 : K.lookup f2 = some ⟨oc2, od2, .func (PySem.W.fnOf "is_number_from" "is_number_from" (defArgs (top 2)) (defBody (top 2)) (defScope (top 2)) .none kV2 dc2 pm2 an2 cd2 ct2), sl2⟩) (c2 : PySem.W.codeIn K cd2 "is_number_from" = true) (k2 : PySem.W.keepIn K (.ref f2) = true)
    (a3 : PySem.W.nsIn K mainGlobals "is_row" = some (some (.ref f3))) (l3 : K.lookup f3 = some ⟨oc3, od3, .func (PySem.W.fnOf "is_row" "is_row" (defArgs (top 3)) (defBody (top 3)) (defScope (top 3)) .none kV3 dc3 pm3 an3 cd3 ct3), sl3⟩) (c3 : PySem.W.codeIn K cd3 "is_row" = true) (k3 : PySem.W.keepIn K (.ref f3) = true)
    (a4 : PySem.W.nsIn K mainGlobals "is_sign" = some (some (.ref f4))) (l4 : K.lookup f4 = some ⟨oc4, od4, .func (PySem.W.fnOf "is_sign" "is_sign" (defArgs (top 4)) (defBody (top 4)) (defScope (top 4)) .none kV4 dc4 pm4 an4 cd4 ct4), sl4⟩) (c4 : PySem.W.codeIn K cd4 "is_sign" = true) (k4 : PySem.W.keepIn K (.ref f4) = true)
    (a5 : PySem.W.nsIn K mainGlobals "is_unlike_signs" = some (some (.ref f5))) (l5 : K.lookup f5 = some ⟨oc5, od5, .func (PySem.W.fnOf "is_unlike_signs" "is_unlike_signs" (defArgs (top 5)) (defBody (top 5)) (defScope (top 5)) .none kV5 dc5 pm5 an5 cd5 ct5), sl5⟩) (c5 : PySem.W.codeIn K cd5 "is_unlike_signs" = true) (k5 : PySem.W.keepIn K (.ref f5) = true)
    (a6 : PySem.W.nsIn K mainGlobals "is_shape" = some (some (.ref f6))) (l6 : K.lookup f6 = some ⟨oc6, od6, .func (PySem.W.fnOf "is_shape" "is_shape" (defArgs (top 9)) (defBody (top 9)) (defScope (top 9)) .none kV6 dc6 pm6 an6 cd6 ct6), sl6⟩) (c6 : PySem.W.codeIn K cd6 "is_shape" = true) (k6 : PySem.W.keepIn K (.ref f6) = true)
    (a7 : PySem.W.nsIn K mainGlobals "parts_count" = some (some (.ref f7))) (l7 : K.lookup f7 = some ⟨oc7, od7, .func (PySem.W.fnOf "parts_count" "parts_count" (defArgs (top 10)) (defBody (top 10)) (defScope (top 10)) .none kV7 dc7 pm7 an7 cd7 ct7), sl7⟩) (c7 : PySem.W.codeIn K cd7 "parts_count" = true) (k7 : PySem.W.keepIn K (.ref f7) = true)
    (a8 : PySem.W.nsIn K mainGlobals "is_form" = some (some (.ref f8))) (l8 : K.lookup f8 = some ⟨oc8, od8, .func (PySem.W.fnOf "is_form" "is_form" (defArgs (top 11)) (defBody (top 11)) (defScope (top 11)) .none kV8 dc8 pm8 an8 cd8 ct8), sl8⟩) (c8 : PySem.W.codeIn K cd8 "is_form" = true) (k8 : PySem.W.keepIn K (.ref f8) = true)
    (a9 : PySem.W.nsIn K mainGlobals "are_times" = some (some (.ref f9))) (l9 : K.lookup f9 = some ⟨oc9, od9, .func (PySem.W.fnOf "are_times" "are_times" (defArgs (top 12)) (defBody (top 12)) (defScope (top 12)) .none kV9 dc9 pm9 an9 cd9 ct9), sl9⟩) (c9 : PySem.W.codeIn K cd9 "are_times" = true) (k9 : PySem.W.keepIn K (.ref f9) = true)
    (a10 : PySem.W.nsIn K mainGlobals "inner" = some (some (.ref f10))) (l10 : K.lookup f10 = some ⟨oc10, od10, .func (PySem.W.fnOf "inner" "inner" (defArgs (top 13)) (defBody (top 13)) (defScope (top 13)) .none kV10 dc10 pm10 an10 cd10 ct10), sl10⟩) (c10 : PySem.W.codeIn K cd10 "inner" = true) (k10 : PySem.W.keepIn K (.ref f10) = true)
    (a11 : PySem.W.nsIn K mainGlobals "_law_pen" = some (some (.ref f11))) (l11 : K.lookup f11 = some ⟨oc11, od11, .func (PySem.W.fnOf "_law_pen" "_law_pen" (defArgs (top 15)) (defBody (top 15)) (defScope (top 15)) .none kV11 dc11 pm11 an11 cd11 ct11), sl11⟩) (c11 : PySem.W.codeIn K cd11 "_law_pen" = true) (k11 : PySem.W.keepIn K (.ref f11) = true)
    (a12 : PySem.W.nsIn K mainGlobals "_law_take" = some (some (.ref f12))) (l12 : K.lookup f12 = some ⟨oc12, od12, .func (PySem.W.fnOf "_law_take" "_law_take" (defArgs (top 16)) (defBody (top 16)) (defScope (top 16)) .none kV12 dc12 pm12 an12 cd12 ct12), sl12⟩) (c12 : PySem.W.codeIn K cd12 "_law_take" = true) (k12 : PySem.W.keepIn K (.ref f12) = true)
    (a13 : PySem.W.nsIn K mainGlobals "_law_signs" = some (some (.ref f13))) (l13 : K.lookup f13 = some ⟨oc13, od13, .func (PySem.W.fnOf "_law_signs" "_law_signs" (defArgs (top 17)) (defBody (top 17)) (defScope (top 17)) .none kV13 dc13 pm13 an13 cd13 ct13), sl13⟩) (c13 : PySem.W.codeIn K cd13 "_law_signs" = true) (k13 : PySem.W.keepIn K (.ref f13) = true)
    (a14 : PySem.W.nsIn K mainGlobals "_law_some" = some (some (.ref f14))) (l14 : K.lookup f14 = some ⟨oc14, od14, .func (PySem.W.fnOf "_law_some" "_law_some" (defArgs (top 18)) (defBody (top 18)) (defScope (top 18)) .none kV14 dc14 pm14 an14 cd14 ct14), sl14⟩) (c14 : PySem.W.codeIn K cd14 "_law_some" = true) (k14 : PySem.W.keepIn K (.ref f14) = true)
    (a15 : PySem.W.nsIn K mainGlobals "_law_shape" = some (some (.ref f15))) (l15 : K.lookup f15 = some ⟨oc15, od15, .func (PySem.W.fnOf "_law_shape" "_law_shape" (defArgs (top 19)) (defBody (top 19)) (defScope (top 19)) .none kV15 dc15 pm15 an15 cd15 ct15), sl15⟩) (c15 : PySem.W.codeIn K cd15 "_law_shape" = true) (k15 : PySem.W.keepIn K (.ref f15) = true)
    (a16 : PySem.W.nsIn K mainGlobals "_law_inner" = some (some (.ref f16))) (l16 : K.lookup f16 = some ⟨oc16, od16, .func (PySem.W.fnOf "_law_inner" "_law_inner" (defArgs (top 20)) (defBody (top 20)) (defScope (top 20)) .none kV16 dc16 pm16 an16 cd16 ct16), sl16⟩) (c16 : PySem.W.codeIn K cd16 "_law_inner" = true) (k16 : PySem.W.keepIn K (.ref f16) = true)
    (a17 : PySem.W.nsIn K mainGlobals "_law_parts" = some (some (.ref f17))) (l17 : K.lookup f17 = some ⟨oc17, od17, .func (PySem.W.fnOf "_law_parts" "_law_parts" (defArgs (top 21)) (defBody (top 21)) (defScope (top 21)) .none kV17 dc17 pm17 an17 cd17 ct17), sl17⟩) (c17 : PySem.W.codeIn K cd17 "_law_parts" = true) (k17 : PySem.W.keepIn K (.ref f17) = true)
    (a18 : PySem.W.nsIn K mainGlobals "_law_put" = some (some (.ref f18))) (l18 : K.lookup f18 = some ⟨oc18, od18, .func (PySem.W.fnOf "_law_put" "_law_put" (defArgs (top 22)) (defBody (top 22)) (defScope (top 22)) .none kV18 dc18 pm18 an18 cd18 ct18), sl18⟩) (c18 : PySem.W.codeIn K cd18 "_law_put" = true) (k18 : PySem.W.keepIn K (.ref f18) = true)
    (a19 : PySem.W.nsIn K mainGlobals "_law_odd_ones" = some (some (.ref f19))) (l19 : K.lookup f19 = some ⟨oc19, od19, .func (PySem.W.fnOf "_law_odd_ones" "_law_odd_ones" (defArgs (top 23)) (defBody (top 23)) (defScope (top 23)) .none kV19 dc19 pm19 an19 cd19 ct19), sl19⟩) (c19 : PySem.W.codeIn K cd19 "_law_odd_ones" = true) (k19 : PySem.W.keepIn K (.ref f19) = true)
    (a20 : PySem.W.nsIn K mainGlobals "_law_odd_parts" = some (some (.ref f20))) (l20 : K.lookup f20 = some ⟨oc20, od20, .func (PySem.W.fnOf "_law_odd_parts" "_law_odd_parts" (defArgs (top 24)) (defBody (top 24)) (defScope (top 24)) .none kV20 dc20 pm20 an20 cd20 ct20), sl20⟩) (c20 : PySem.W.codeIn K cd20 "_law_odd_parts" = true) (k20 : PySem.W.keepIn K (.ref f20) = true)
    (a21 : PySem.W.nsIn K mainGlobals "_law_deep" = some (some (.ref f21))) (l21 : K.lookup f21 = some ⟨oc21, od21, .func (PySem.W.fnOf "_law_deep" "_law_deep" (defArgs (top 25)) (defBody (top 25)) (defScope (top 25)) .none kV21 dc21 pm21 an21 cd21 ct21), sl21⟩) (c21 : PySem.W.codeIn K cd21 "_law_deep" = true) (k21 : PySem.W.keepIn K (.ref f21) = true)
    (a22 : PySem.W.nsIn K mainGlobals "_law_counted" = some (some (.ref f22))) (l22 : K.lookup f22 = some ⟨oc22, od22, .func (PySem.W.fnOf "_law_counted" "_law_counted" (defArgs (top 26)) (defBody (top 26)) (defScope (top 26)) .none kV22 dc22 pm22 an22 cd22 ct22), sl22⟩) (c22 : PySem.W.codeIn K cd22 "_law_counted" = true) (k22 : PySem.W.keepIn K (.ref f22) = true)
    (a23 : PySem.W.nsIn K mainGlobals "_law_wide" = some (some (.ref f23))) (l23 : K.lookup f23 = some ⟨oc23, od23, .func (PySem.W.fnOf "_law_wide" "_law_wide" (defArgs (top 27)) (defBody (top 27)) (defScope (top 27)) .none kV23 dc23 pm23 an23 cd23 ct23), sl23⟩) (c23 : PySem.W.codeIn K cd23 "_law_wide" = true) (k23 : PySem.W.keepIn K (.ref f23) = true)
    (a24 : PySem.W.nsIn K mainGlobals "law" = some (some (.ref f24))) (l24 : K.lookup f24 = some ⟨oc24, od24, .func (PySem.W.fnOf "law" "law" (defArgs (top 28)) (defBody (top 28)) (defScope (top 28)) .none kV24 dc24 pm24 an24 cd24 ct24), sl24⟩) (c24 : PySem.W.codeIn K cd24 "law" = true) (k24 : PySem.W.keepIn K (.ref f24) = true)
    (z1 : PySem.W.nsIn K mainGlobals "abs" = some none) (z2 : PySem.W.nsIn K mainGlobals "all" = some none) (z3 : PySem.W.nsIn K mainGlobals "bool" = some none) (z4 : PySem.W.nsIn K mainGlobals "int" = some none) (z5 : PySem.W.nsIn K mainGlobals "isinstance" = some none) (z6 : PySem.W.nsIn K mainGlobals "len" = some none) (z7 : PySem.W.nsIn K mainGlobals "list" = some none) (z8 : PySem.W.nsIn K mainGlobals "min" = some none) (z9 : PySem.W.nsIn K mainGlobals "ord" = some none) (z10 : PySem.W.nsIn K mainGlobals "range" = some none) (z11 : PySem.W.nsIn K mainGlobals "set" = some none) (z12 : PySem.W.nsIn K mainGlobals "str" = some none) (z13 : PySem.W.nsIn K mainGlobals "tuple" = some none) {ty1 : Tok} (y1 : PySem.W.nsIn K mainGlobals "DEEPEST" = some (some (.int 5 ty1))) {ty2 : Tok} (y2 : PySem.W.nsIn K mainGlobals "MOST_PARTS" = some (some (.int 24 ty2))) :
    ∃ fd : FuncData, (∀ (s : Shared) (v : Value), BindsTo s fd ⟨[v], []⟩ [("_law_script", v)]) ∧ ∀ base : Heap, K.In base → base.Ns mainGlobals mg → FnOk l.prog w K mg base CX0 14 fa fd ["_law_script"] (spLaw K) := by
  have e := hfa.symm.trans (PySem.W.mg_of X G a24)
  cases e
  have F1 := fun_mk (st := top 1) l1 c1 k1
  have b1 := F1.binds (ps := ["thing"]) fun _ _ _ _ _ _ us hl => match us, hl with | [_], _ => rfl
  have F2 := fun_mk (st := top 2) l2 c2 k2
  have b2 := F2.binds (ps := ["thing", "low", "high"]) fun _ _ _ _ _ _ us hl => match us, hl with | [_, _, _], _ => rfl
  have F3 := fun_mk (st := top 3) l3 c3 k3
  have b3 := F3.binds (ps := ["thing", "low", "high"]) fun _ _ _ _ _ _ us hl => match us, hl with | [_, _, _], _ => rfl
  have F4 := fun_mk (st := top 4) l4 c4 k4
  have b4 := F4.binds (ps := ["thing"]) fun _ _ _ _ _ _ us hl => match us, hl with | [_], _ => rfl
  have F5 := fun_mk (st := top 5) l5 c5 k5
  have b5 := F5.binds (ps := ["thing"]) fun _ _ _ _ _ _ us hl => match us, hl with | [_], _ => rfl
  have F6 := fun_mk (st := top 9) l6 c6 k6
  have b6 := F6.binds (ps := ["thing"]) fun _ _ _ _ _ _ us hl => match us, hl with | [_], _ => rfl
  have F7 := fun_mk (st := top 10) l7 c7 k7
  have b7 := F7.binds (ps := ["thing", "deep", "most"]) fun _ _ _ _ _ _ us hl => match us, hl with | [_, _, _], _ => rfl
  have F8 := fun_mk (st := top 11) l8 c8 k8
  have b8 := F8.binds (ps := ["thing"]) fun _ _ _ _ _ _ us hl => match us, hl with | [_], _ => rfl
  have F9 := fun_mk (st := top 12) l9 c9 k9
  have b9 := F9.binds (ps := ["low", "high"]) fun _ _ _ _ _ _ us hl => match us, hl with | [_, _], _ => rfl
  have F10 := fun_mk (st := top 13) l10 c10 k10
  have b10 := F10.binds (ps := ["shape"]) fun _ _ _ _ _ _ us hl => match us, hl with | [_], _ => rfl
  have F11 := fun_mk (st := top 15) l11 c11 k11
  have b11 := F11.binds (ps := ["_law_script"]) fun _ _ _ _ _ _ us hl => match us, hl with | [_], _ => rfl
  have F12 := fun_mk (st := top 16) l12 c12 k12
  have b12 := F12.binds (ps := ["_law_pen_here", "_law_many"]) fun _ _ _ _ _ _ us hl => match us, hl with | [_, _], _ => rfl
  have F13 := fun_mk (st := top 17) l13 c13 k13
  have b13 := F13.binds (ps := []) fun _ _ _ _ _ _ us hl => match us, hl with | [], _ => rfl
  have F14 := fun_mk (st := top 18) l14 c14 k14
  have b14 := F14.binds (ps := ["_law_pen_here", "_law_rest", "_law_most"]) fun _ _ _ _ _ _ us hl => match us, hl with | [_, _, _], _ => rfl
  have F15 := fun_mk (st := top 19) l15 c15 k15
  have b15 := F15.binds (ps := ["_law_pen_here", "_law_purse", "_law_deep_here", "_law_tongue"]) fun _ _ _ _ _ _ us hl => match us, hl with | [_, _, _, _], _ => rfl
  have F16 := fun_mk (st := top 20) l16 c16 k16
  have b16 := F16.binds (ps := ["_law_shape_here"]) fun _ _ _ _ _ _ us hl => match us, hl with | [_], _ => rfl
  have F17 := fun_mk (st := top 21) l17 c17 k17
  have b17 := F17.binds (ps := ["_law_shape_here"]) fun _ _ _ _ _ _ us hl => match us, hl with | [_], _ => rfl
  have F18 := fun_mk (st := top 22) l18 c18 k18
  have b18 := F18.binds (ps := ["_law_shape_here", "_law_at", "_law_thing"]) fun _ _ _ _ _ _ us hl => match us, hl with | [_, _, _], _ => rfl
  have F19 := fun_mk (st := top 23) l19 c19 k19
  have b19 := F19.binds (ps := ["_law_pen_here"]) fun _ _ _ _ _ _ us hl => match us, hl with | [_], _ => rfl
  have F20 := fun_mk (st := top 24) l20 c20 k20
  have b20 := F20.binds (ps := ["_law_pen_here", "_law_part"]) fun _ _ _ _ _ _ us hl => match us, hl with | [_, _], _ => rfl
  have F21 := fun_mk (st := top 25) l21 c21 k21
  have b21 := F21.binds (ps := ["_law_pen_here", "_law_part", "_law_deep_here"]) fun _ _ _ _ _ _ us hl => match us, hl with | [_, _, _], _ => rfl
  have F22 := fun_mk (st := top 26) l22 c22 k22
  have b22 := F22.binds (ps := ["_law_pen_here", "_law_one", "_law_size"]) fun _ _ _ _ _ _ us hl => match us, hl with | [_, _, _], _ => rfl
  have F23 := fun_mk (st := top 27) l23 c23 k23
  have b23 := F23.binds (ps := ["_law_pen_here", "_law_one", "_law_size"]) fun _ _ _ _ _ _ us hl => match us, hl with | [_, _, _], _ => rfl
  have F24 := fun_mk (st := top 28) l24 c24 k24
  have b24 := F24.binds (ps := ["_law_script"]) fun _ _ _ _ _ _ us hl => match us, hl with | [_], _ => rfl
  have M : Nm mg := ⟨PySem.W.mg_none_of X G z1, PySem.W.mg_none_of X G z2, PySem.W.mg_none_of X G z3, PySem.W.mg_none_of X G z4, PySem.W.mg_none_of X G z5, PySem.W.mg_none_of X G z6, PySem.W.mg_none_of X G z7, PySem.W.mg_none_of X G z8, PySem.W.mg_none_of X G z9, PySem.W.mg_none_of X G z10, PySem.W.mg_none_of X G z11, PySem.W.mg_none_of X G z12, PySem.W.mg_none_of X G z13⟩
  have C : Cn mg := ⟨⟨_, PySem.W.mg_of X G y1⟩, ⟨_, PySem.W.mg_of X G y2⟩⟩
  refine ⟨PySem.W.fnOf "law" "law" (defArgs (top 28)) (defBody (top 28)) (defScope (top 28)) .none kV24 dc24 pm24 an24 cd24 ct24, fun s v => .of_eq rfl, fun base _ _ => ?_⟩
  have D_is_number := d_is_number (P := l.prog) (w := w) (base := base) F1 (PySem.W.mg_of X G a1) k1 b1 M
  have D_is_number_from := d_is_number_from (P := l.prog) (w := w) (base := base) F2 (PySem.W.mg_of X G a2) k2 b2 D_is_number
  have D_is_row := d_is_row (P := l.prog) (w := w) (base := base) F3 (PySem.W.mg_of X G a3) k3 b3 M
  have D_is_sign := d_is_sign (P := l.prog) (w := w) (base := base) F4 (PySem.W.mg_of X G a4) k4 b4 M
  have D_is_unlike_signs := d_is_unlike_signs (P := l.prog) (w := w) (base := base) F5 (PySem.W.mg_of X G a5) k5 b5 M D_is_sign
  have D_inner := d_inner (P := l.prog) (w := w) (base := base) F10 (PySem.W.mg_of X G a10) k10 b10
  have D_are_times := d_are_times (P := l.prog) (w := w) (base := base) F9 (PySem.W.mg_of X G a9) k9 b9 D_is_number_from
  have D_is_form := d_is_form (P := l.prog) (w := w) (base := base) F8 (PySem.W.mg_of X G a8) k8 b8 M D_are_times D_is_row D_is_unlike_signs
  have D_parts_count := d_parts_count (P := l.prog) (w := w) (base := base) F7 (PySem.W.mg_of X G a7) k7 b7 D_inner D_is_form 6
  have D_is_shape := d_is_shape (P := l.prog) (w := w) (base := base) F6 (PySem.W.mg_of X G a6) k6 b6 C D_parts_count
  have D_law_pen := d_law_pen (P := l.prog) (w := w) (base := base) F11 (PySem.W.mg_of X G a11) k11 b11
  have D_law_take := d_law_take (P := l.prog) (w := w) (base := base) F12 (PySem.W.mg_of X G a12) k12 b12 M
  have D_law_signs := d_law_signs (P := l.prog) (w := w) (base := base) F13 (PySem.W.mg_of X G a13) k13 b13
  have D_law_some := d_law_some (P := l.prog) (w := w) (base := base) F14 (PySem.W.mg_of X G a14) k14 b14 M D_law_take
  have D_law_shape := d_law_shape (P := l.prog) (w := w) (base := base) F15 (PySem.W.mg_of X G a15) k15 b15 M D_law_some D_law_take 5
  have D_law_inner := d_law_inner (P := l.prog) (w := w) (base := base) F16 (PySem.W.mg_of X G a16) k16 b16
  have D_law_parts := d_law_parts (P := l.prog) (w := w) (base := base) F17 (PySem.W.mg_of X G a17) k17 b17 D_law_inner 6
  have D_law_put := d_law_put (P := l.prog) (w := w) (base := base) F18 (PySem.W.mg_of X G a18) k18 b18 M D_law_inner D_law_parts 6
  have D_law_odd_ones := d_law_odd_ones (P := l.prog) (w := w) (base := base) F19 (PySem.W.mg_of X G a19) k19 b19 M D_law_signs D_law_some D_law_take
  have D_law_odd_parts := d_law_odd_parts (P := l.prog) (w := w) (base := base) F20 (PySem.W.mg_of X G a20) k20 b20 D_law_take
  have D_law_deep := d_law_deep (P := l.prog) (w := w) (base := base) F21 (PySem.W.mg_of X G a21) k21 b21 M D_law_take
  have D_law_counted := d_law_counted (P := l.prog) (w := w) (base := base) F22 (PySem.W.mg_of X G a22) k22 b22 M D_law_take
  have D_law_wide := d_law_wide (P := l.prog) (w := w) (base := base) F23 (PySem.W.mg_of X G a23) k23 b23 M D_law_counted D_law_take
  have D_law := d_law (P := l.prog) (w := w) (base := base) F24 (PySem.W.mg_of X G a24) k24 b24 M D_law_deep D_law_odd_ones D_law_odd_parts D_law_parts D_law_pen D_law_put D_law_shape D_law_signs D_law_some D_law_take D_law_wide D_is_shape
  exact D_law.ok.imp law_to
theorem walk {l : PySem.W.OpenLaw} {q : Program} {loose : List Str} {XP : (Str → Option Value) → Heap → Prop} {YP : World → Heap → Prop} {d : DefRec} {K : Params → PySem.W.Frag} (hn : l.most = some 63) (hdf : d.params.defaults = [])
    (hY : ∀ (w : World) (h : Heap), YP w h → (K w.params).In h)
    (F : ∀ (w : World) (mg : Str → Option Value) (fa : Addr) (h : Heap), (K w.params).In h → h.Ns mainGlobals mg → mg d.name = some (.ref fa) →
      ∃ fd : FuncData, (∀ (s : Shared) (u : Value), BindsTo s fd ⟨[u], []⟩ [("_law_script", u)]) ∧ ∀ base : Heap, (K w.params).In base → base.Ns mainGlobals mg → FnOk l.prog w (K w.params) mg base CX0 14 fa fd ["_law_script"] (spLaw (K w.params))) :
    PySem.W.WalkO q loose XP YP l.row.toRowW d [] (fun f vs => PySem.call f vs) :=
  L2.walk_of (n := 63) (k := 14) (x := "_law_script") (CX := fun _ => CX0) (sp := fun w => spLaw (K w.params)) hn (by decide) hdf ⟨rfl, by decide, by decide⟩ hY F (fun _ _ a ns hl hO hS => ⟨a, ns, rfl, sqf_of hO hS, hl, fun _ => rfl⟩) fun _ _ _ _ _ z => z
end K04
open PySem PySem.W PyProof.Rows
set_option maxRecDepth 100000 in
set_option maxHeartbeats 0 in
theorem PySem.Challenge.cw_nearreach_k04_shapes_of_anything_holds : PySem.Challenge.rw_nearreach_k04_shapes_of_anything.Holds := by
  w_on; o_law; k_head; (case hw => w_witness2)
  k_fill
  refine K04.walk (l := PySem.Challenge.rw_nearreach_k04_shapes_of_anything) rfl rfl (fun w h Y => PySem.W.kIn_of Y) ?F
  case F =>
    intro w mg fa h KX G hmg
    refine' K04.all_mk KX G hmg ?a1 ?l1 ?c1 ?k1 ?a2 ?l2 ?c2 ?k2 ?a3 ?l3 ?c3 ?k3 ?a4 ?l4 ?c4 ?k4 ?a5 ?l5 ?c5 ?k5 ?a6 ?l6 ?c6 ?k6 ?a7 ?l7 ?c7 ?k7 ?a8 ?l8 ?c8 ?k8 ?a9 ?l9 ?c9 ?k9 ?a10 ?l10 ?c10 ?k10 ?a11 ?l11 ?c11 ?k11 ?a12 ?l12 ?c12 ?k12 ?a13 ?l13 ?c13 ?k13 ?a14 ?l14 ?c14 ?k14 ?a15 ?l15 ?c15 ?k15 ?a16 ?l16 ?c16 ?k16 ?a17 ?l17 ?c17 ?k17 ?a18 ?l18 ?c18 ?k18 ?a19 ?l19 ?c19 ?k19 ?a20 ?l20 ?c20 ?k20 ?a21 ?l21 ?c21 ?k21 ?a22 ?l22 ?c22 ?k22 ?a23 ?l23 ?c23 ?k23 ?a24 ?l24 ?c24 ?k24 ?z1 ?z2 ?z3 ?z4 ?z5 ?z6 ?z7 ?z8 ?z9 ?z10 ?z11 ?z12 ?z13 ?y1 ?y2
    (case a1 => k_is); (case l1 => k_is); (case c1 => k_is); (case k1 => k_is)
    (case a2 => k_is); (case l2 => k_is); (case c2 => k_is); (case k2 => k_is)
    (case a3 => k_is); (case l3 => k_is); (case c3 => k_is); (case k3 => k_is)
    (case a4 => k_is); (case l4 => k_is); (case c4 => k_is); (case k4 => k_is)
    (case a5 => k_is); (case l5 => k_is); (case c5 => k_is); (case k5 => k_is)
    (case a6 => k_is); (case l6 => k_is); (case c6 => k_is); (case k6 => k_is)
    (case a7 => k_is); (case l7 => k_is); (case c7 => k_is); (case k7 => k_is)
    (case a8 => k_is); (case l8 => k_is); (case c8 => k_is); (case k8 => k_is)
    (case a9 => k_is); (case l9 => k_is); (case c9 => k_is); (case k9 => k_is)
    (case a10 => k_is); (case l10 => k_is); (case c10 => k_is); (case k10 => k_is)
    (case a11 => k_is); (case l11 => k_is); (case c11 => k_is); (case k11 => k_is)
    (case a12 => k_is); (case l12 => k_is); (case c12 => k_is); (case k12 => k_is)
    (case a13 => k_is); (case l13 => k_is); (case c13 => k_is); (case k13 => k_is)
    (case a14 => k_is); (case l14 => k_is); (case c14 => k_is); (case k14 => k_is)
    (case a15 => k_is); (case l15 => k_is); (case c15 => k_is); (case k15 => k_is)
    (case a16 => k_is); (case l16 => k_is); (case c16 => k_is); (case k16 => k_is)
    (case a17 => k_is); (case l17 => k_is); (case c17 => k_is); (case k17 => k_is)
    (case a18 => k_is); (case l18 => k_is); (case c18 => k_is); (case k18 => k_is)
    (case a19 => k_is); (case l19 => k_is); (case c19 => k_is); (case k19 => k_is)
    (case a20 => k_is); (case l20 => k_is); (case c20 => k_is); (case k20 => k_is)
    (case a21 => k_is); (case l21 => k_is); (case c21 => k_is); (case k21 => k_is)
    (case a22 => k_is); (case l22 => k_is); (case c22 => k_is); (case k22 => k_is)
    (case a23 => k_is); (case l23 => k_is); (case c23 => k_is); (case k23 => k_is)
    (case a24 => k_is); (case l24 => k_is); (case c24 => k_is); (case k24 => k_is)
    (case z1 => k_is)
    (case z2 => k_is)
    (case z3 => k_is)
    (case z4 => k_is)
    (case z5 => k_is)
    (case z6 => k_is)
    (case z7 => k_is)
    (case z8 => k_is)
    (case z9 => k_is)
    (case z10 => k_is)
    (case z11 => k_is)
    (case z12 => k_is)
    (case z13 => k_is)
    (case y1 => k_is)
    (case y2 => k_is)
